import Derived.Test.YtjhifhoniimfgaaGreatG28
import Derived.Test.YtjhifhoniimfgaaGreatG21
import Derived.Test.YtjhifhoniimfgaaGreatG24
/-
  Lists of the document's gate that turn.
-/
namespace Go.Proofs.YtjhifhoniimfgaaGreat
open Go.RowKit

theorem RG.relane {own : Nat → Nat} {T : Nat} {w w' : World} {R : RB} {s : St} (h : RG own T w R s) (i : Nat) (hi : i < 2) (v : Value) (m t : Nat) (f : Nat → Pl) (hk : Keep (fun b => b ≠ R.rb ∧ (R.lv i).ownBlock ≠ some b) w w')
    (hg : w'.heap[R.rb]? = some (.cells (rCells { R with lv := upN R.lv i v } { s with m := upN s.m i m, t := upN s.t i t, f := upN s.f i f }) 115 (0, 0))) (hv : PlRow w' v m f) (hb : ∀ b, v.ownBlock = some b → (R.lv i).ownBlock = some b ∨ w.heap.size ≤ b) :
    RG (ext own w.heap.size (T + 1 + i)) T w' { R with lv := upN R.lv i v } { s with m := upN s.m i m, t := upN s.t i t, f := upN s.f i f } ∧ Keep (Out own T) w w' := by
  have ho := Same.ext own w (T + 1 + i)
  obtain ⟨n1, n2, n3⟩ := h.ne
  obtain ⟨cl, l1, l2⟩ := h.lims
  obtain ⟨ck, k1, k2⟩ := h.cli
  have hp : ∀ b, own b ≠ T → own b ≠ T + 1 + i → b ≠ R.rb ∧ (R.lv i).ownBlock ≠ some b := fun b hb hb2 => ⟨fun e => hb (e ▸ h.og), fun e => hb2 (h.oln i b hi e)⟩
  have hpl : ∀ b, own b = T → b ≠ R.rb → b ≠ R.rb ∧ (R.lv i).ownBlock ≠ some b := fun b hb hb2 => ⟨hb2, fun e => by have := h.oln i b hi e; omega⟩
  refine ⟨⟨hg, ⟨cl, hk.get l1 (hpl _ h.ol n1), l2⟩, ⟨ck, hk.get k1 (hpl _ h.ok n2), k2⟩, fun j hj => ?_, fun c hc => (h.ring c hc).keep hk (fun b hb => hp b (by have := h.ori c b hc hb; have hc' : c < s.cl := hc; omega) (by have := h.ori c b hc hb; have hc' : c < s.cl := hc; omega)),
    fun c hc => (h.acks c hc).keep hk (fun b hb => hp b (by have := h.oac c b hc hb; have hc' : c < s.cl := hc; omega) (by have := h.oac c b hc hb; have hc' : c < s.cl := hc; omega)), fun a ha => ownsRow_keep (h.book a ha) hk (fun b hb => hp b (by have := h.obk a b ha hb; omega) (by have := h.obk a b ha hb; omega)), h.held, ?_, ?_, ?_, fun j b hj hb' => ?_, fun c b hc hb' => ?_, fun c b hc hb' => ?_, fun a b ha hb' => ?_⟩, hk.mono (fun b _ hO => hp b (by unfold Out at hO; omega) (by unfold Out at hO; omega))⟩
  · show PlRow w' (upN R.lv i v j) (upN s.m i m j) (upN s.f i f j)
    by_cases e : j = i
    · subst e; rw [upN_same, upN_same, upN_same]; exact hv
    · rw [upN_ne _ _ _ _ e, upN_ne _ _ _ _ e, upN_ne _ _ _ _ e]
      exact ownsRow_keep (h.lane j hj) hk (fun b hb' => hp b (by have := h.oln j b hj hb'; omega) (by have := h.oln j b hj hb'; omega))
  · show ext own w.heap.size (T + 1 + i) R.rb = T
    rw [ext_lt (block_lt h.gate)]; exact h.og
  · show ext own w.heap.size (T + 1 + i) R.lb = T
    rw [ext_lt (block_lt l1)]; exact h.ol
  · show ext own w.heap.size (T + 1 + i) R.kb = T
    rw [ext_lt (block_lt k1)]; exact h.ok
  · replace hb' : (upN R.lv i v j).ownBlock = some b := hb'
    by_cases e : j = i
    · subst e
      rw [upN_same] at hb'
      rcases hb b hb' with q | q
      · rw [ext_lt (ownsRow_lt (h.lane j hj) b q)]; exact h.oln j b hj q
      · exact ext_ge q
    · rw [upN_ne _ _ _ _ e] at hb'
      rw [ext_lt (ownsRow_lt (h.lane j hj) b hb')]; exact h.oln j b hj hb'
  · rw [ext_lt ((h.ring c hc).lt b hb')]; exact h.ori c b hc hb'
  · rw [ext_lt ((h.acks c hc).lt b hb')]; exact h.oac c b hc hb'
  · rw [ext_lt (ownsRow_lt (h.book a ha) b hb')]; exact h.obk a b ha hb'

theorem RG.rebook {own : Nat → Nat} {T : Nat} {w w' : World} {R : RB} {s : St} (h : RG own T w R s) (hcl : s.cl ≤ 8) (k : Nat) (hkk : k < 4) (v : Value) (es : List Ent) (hk : Keep (fun b => b ≠ R.rb ∧ (R.bv k).ownBlock ≠ some b) w w')
    (hg : w'.heap[R.rb]? = some (.cells (rCells { R with bv := upN R.bv k v } { s with book := upN s.book k es }) 115 (0, 0))) (hv : w'.ownsRow 0 160 7 v es.length (entFlat es)) (hb : ∀ b, v.ownBlock = some b → (R.bv k).ownBlock = some b ∨ w.heap.size ≤ b) :
    RG (ext own w.heap.size (T + 30 + k)) T w' { R with bv := upN R.bv k v } { s with book := upN s.book k es } ∧ Keep (Out own T) w w' := by
  have ho := Same.ext own w (T + 30 + k)
  obtain ⟨n1, n2, n3⟩ := h.ne
  obtain ⟨cl, l1, l2⟩ := h.lims
  obtain ⟨ck, k1, k2⟩ := h.cli
  have hp : ∀ b, own b ≠ T → own b ≠ T + 30 + k → b ≠ R.rb ∧ (R.bv k).ownBlock ≠ some b := fun b hb hb2 => ⟨fun e => hb (e ▸ h.og), fun e => hb2 (h.obk k b hkk e)⟩
  have hpl : ∀ b, own b = T → b ≠ R.rb → b ≠ R.rb ∧ (R.bv k).ownBlock ≠ some b := fun b hb hb2 => ⟨hb2, fun e => by have := h.obk k b hkk e; omega⟩
  refine ⟨⟨hg, ⟨cl, hk.get l1 (hpl _ h.ol n1), l2⟩, ⟨ck, hk.get k1 (hpl _ h.ok n2), k2⟩, fun j hj => ownsRow_keep (h.lane j hj) hk (fun b hb' => hp b (by have := h.oln j b hj hb'; omega) (by have := h.oln j b hj hb'; omega)), fun c hc => (h.ring c hc).keep hk (fun b hb => hp b (by have := h.ori c b hc hb; have hc' : c < s.cl := hc; omega) (by have := h.ori c b hc hb; have hc' : c < s.cl := hc; omega)),
    fun c hc => (h.acks c hc).keep hk (fun b hb => hp b (by have := h.oac c b hc hb; have hc' : c < s.cl := hc; omega) (by have := h.oac c b hc hb; have hc' : c < s.cl := hc; omega)), fun a ha => ?_, h.held, ?_, ?_, ?_, fun j b hj hb' => ?_, fun c b hc hb' => ?_, fun c b hc hb' => ?_, fun a b ha hb' => ?_⟩, hk.mono (fun b _ hO => hp b (by unfold Out at hO; omega) (by unfold Out at hO; omega))⟩
  · show w'.ownsRow 0 _ 7 (upN R.bv k v a) (upN s.book k es a).length (entFlat (upN s.book k es a))
    by_cases e : a = k
    · subst e; rw [upN_same, upN_same]; exact hv
    · rw [upN_ne _ _ _ _ e, upN_ne _ _ _ _ e]
      exact ownsRow_keep (h.book a ha) hk (fun b hb' => hp b (by have := h.obk a b ha hb'; omega) (by have := h.obk a b ha hb'; omega))
  · show ext own w.heap.size (T + 30 + k) R.rb = T
    rw [ext_lt (block_lt h.gate)]; exact h.og
  · show ext own w.heap.size (T + 30 + k) R.lb = T
    rw [ext_lt (block_lt l1)]; exact h.ol
  · show ext own w.heap.size (T + 30 + k) R.kb = T
    rw [ext_lt (block_lt k1)]; exact h.ok
  · rw [ext_lt (ownsRow_lt (h.lane j hj) b hb')]; exact h.oln j b hj hb'
  · rw [ext_lt ((h.ring c hc).lt b hb')]; exact h.ori c b hc hb'
  · rw [ext_lt ((h.acks c hc).lt b hb')]; exact h.oac c b hc hb'
  · replace hb' : (upN R.bv k v a).ownBlock = some b := hb'
    by_cases e : a = k
    · subst e
      rw [upN_same] at hb'
      rcases hb b hb' with q | q
      · rw [ext_lt (ownsRow_lt (h.book a ha) b q)]; exact h.obk a b ha q
      · exact ext_ge q
    · rw [upN_ne _ _ _ _ e] at hb'
      rw [ext_lt (ownsRow_lt (h.book a ha) b hb')]; exact h.obk a b ha hb'

/-- A client's ring has turned; the gate's own block may have turned with it, as told. -/
theorem RG.rering {own : Nat → Nat} {T : Nat} {w w' : World} {R : RB} {s : St} (h : RG own T w R s) (hcl : s.cl ≤ 8) (c : Nat) (hc : c < s.cl) (v : Value) (l : List Ans) (hd : Option (Nat × Ans)) (hh : ∀ c a, hd = some (c, a) → R.hw = c ∧ R.hp = a.1 ∧ R.hq = a.2) (hk : Keep (fun b => b ≠ R.rb ∧ b ≠ R.kb ∧ sBlock (R.rv c) ≠ some b) w w')
    (hg : w'.heap[R.rb]? = some (.cells (rCells R { s with held := hd }) 115 (0, 0))) (hc' : ∀ cs f, w.heap[R.kb]? = some (.cells cs 122 f) → w'.heap[R.kb]? = some (.cells (cs.setIfInBounds (c * 2) v) 122 f)) (hv : RingAt w' v l) (hb : ∀ b, sBlock v = some b → sBlock (R.rv c) = some b ∨ w.heap.size ≤ b) :
    RG (ext own w.heap.size (T + 10 + c)) T w' { R with rv := upN R.rv c v } { s with ring := upN s.ring c l, held := hd } ∧ Keep (Out own T) w w' := by
  have ho := Same.ext own w (T + 10 + c)
  obtain ⟨n1, n2, n3⟩ := h.ne
  obtain ⟨cl, l1, l2⟩ := h.lims
  obtain ⟨ck, k1, k2, k3⟩ := h.cli
  have hp : ∀ b, own b ≠ T → own b ≠ T + 10 + c → b ≠ R.rb ∧ b ≠ R.kb ∧ sBlock (R.rv c) ≠ some b := fun b hb hb2 => ⟨fun e => hb (e ▸ h.og), fun e => hb (e ▸ h.ok), fun e => hb2 (h.ori c b hc e)⟩
  refine ⟨⟨hg, ⟨cl, hk.get l1 ⟨n1, Ne.symm n3, fun e => by have q1 : own R.lb = T + 10 + c := h.ori c R.lb hc e; have q2 := h.ol; omega⟩, l2⟩, ⟨_, hc' _ _ k1, by simpa using k2, fun j hj => ?_⟩, fun j hj => ownsRow_keep (h.lane j hj) hk (fun b hb' => hp b (by have := h.oln j b hj hb'; omega) (by have := h.oln j b hj hb'; omega)), fun j hj => ?_,
    fun j hj => (h.acks j hj).keep hk (fun b hb => hp b (by have := h.oac j b hj hb; omega) (by have := h.oac j b hj hb; omega)), fun a ha => ownsRow_keep (h.book a ha) hk (fun b hb => hp b (by have := h.obk a b ha hb; omega) (by have := h.obk a b ha hb; omega)), hh, ?_, ?_, ?_, fun j b hj hb' => ?_, fun j b hj hb' => ?_, fun c b hc hb' => ?_, fun a b ha hb' => ?_⟩, hk.mono (fun b _ hO => hp b (by unfold Out at hO; omega) (by unfold Out at hO; omega))⟩
  · have hj : j < s.cl := hj
    obtain ⟨a1, a2⟩ := k3 j hj
    show (ck.setIfInBounds (c * 2) v)[j * 2]? = some (upN R.rv c v j) ∧ _
    by_cases e : j = c
    · subst e
      rw [upN_same, Array.getElem?_setIfInBounds_self, if_pos (by omega), Array.getElem?_setIfInBounds_ne (by omega)]
      exact ⟨rfl, a2⟩
    · rw [upN_ne _ _ _ _ e, Array.getElem?_setIfInBounds_ne (by omega), Array.getElem?_setIfInBounds_ne (by omega)]
      exact ⟨a1, a2⟩
  · have hj : j < s.cl := hj
    show RingAt w' (upN R.rv c v j) (upN s.ring c l j)
    by_cases e : j = c
    · subst e; rw [upN_same, upN_same]; exact hv
    · rw [upN_ne _ _ _ _ e, upN_ne _ _ _ _ e]
      exact (h.ring j hj).keep hk (fun b hb' => hp b (by have := h.ori j b hj hb'; omega) (by have := h.ori j b hj hb'; omega))
  · show ext own w.heap.size (T + 10 + c) R.rb = T
    rw [ext_lt (block_lt h.gate)]; exact h.og
  · show ext own w.heap.size (T + 10 + c) R.lb = T
    rw [ext_lt (block_lt l1)]; exact h.ol
  · show ext own w.heap.size (T + 10 + c) R.kb = T
    rw [ext_lt (block_lt k1)]; exact h.ok
  · rw [ext_lt (ownsRow_lt (h.lane j hj) b hb')]; exact h.oln j b hj hb'
  · have hj : j < s.cl := hj
    replace hb' : sBlock (upN R.rv c v j) = some b := hb'
    by_cases e : j = c
    · subst e
      rw [upN_same] at hb'
      rcases hb b hb' with q | q
      · rw [ext_lt ((h.ring j hj).lt b q)]; exact h.ori j b hj q
      · exact ext_ge q
    · rw [upN_ne _ _ _ _ e] at hb'
      rw [ext_lt ((h.ring j hj).lt b hb')]; exact h.ori j b hj hb'
  · rw [ext_lt ((h.acks c hc).lt b hb')]; exact h.oac c b hc hb'
  · rw [ext_lt (ownsRow_lt (h.book a ha) b hb')]; exact h.obk a b ha hb'

/-- A client's acks have turned. -/
theorem RG.reacks {own : Nat → Nat} {T : Nat} {w w' : World} {R : RB} {s : St} (h : RG own T w R s) (hcl : s.cl ≤ 8) (c : Nat) (hc : c < s.cl) (v : Value) (l : List Ans) (hk : Keep (fun b => b ≠ R.kb ∧ (R.av c).ownBlock ≠ some b) w w')
    (hc' : ∀ cs f, w.heap[R.kb]? = some (.cells cs 122 f) → w'.heap[R.kb]? = some (.cells (cs.setIfInBounds (c * 2 + 1) v) 122 f)) (hv : AckAt w' v l) (hb : ∀ b, v.ownBlock = some b → (R.av c).ownBlock = some b ∨ w.heap.size ≤ b) :
    RG (ext own w.heap.size (T + 20 + c)) T w' { R with av := upN R.av c v } { s with acks := upN s.acks c l } ∧ Keep (Out own T) w w' := by
  have ho := Same.ext own w (T + 20 + c)
  obtain ⟨n1, n2, n3⟩ := h.ne
  obtain ⟨cl, l1, l2⟩ := h.lims
  obtain ⟨ck, k1, k2, k3⟩ := h.cli
  have hp : ∀ b, own b ≠ T → own b ≠ T + 20 + c → b ≠ R.kb ∧ (R.av c).ownBlock ≠ some b := fun b hb hb2 => ⟨fun e => hb (e ▸ h.ok), fun e => hb2 (h.oac c b hc e)⟩
  have hav : ∀ b, own b = T → (R.av c).ownBlock ≠ some b := fun b hb e => by have := h.oac c b hc e; omega
  refine ⟨⟨hk.get h.gate ⟨Ne.symm n2, hav _ h.og⟩, ⟨cl, hk.get l1 ⟨Ne.symm n3, hav _ h.ol⟩, l2⟩, ⟨_, hc' _ _ k1, by simpa using k2, fun j hj => ?_⟩, fun j hj => ownsRow_keep (h.lane j hj) hk (fun b hb' => hp b (by have := h.oln j b hj hb'; omega) (by have := h.oln j b hj hb'; omega)), fun j hj => (h.ring j hj).keep hk (fun b hb => hp b (by have := h.ori j b hj hb; have hj : j < s.cl := hj; omega) (by have := h.ori j b hj hb; have hj : j < s.cl := hj; omega)),
    fun j hj => ?_, fun a ha => ownsRow_keep (h.book a ha) hk (fun b hb => hp b (by have := h.obk a b ha hb; omega) (by have := h.obk a b ha hb; omega)), h.held, ?_, ?_, ?_, fun j b hj hb' => ?_, fun j b hj hb' => ?_, fun j b hj hb' => ?_, fun a b ha hb' => ?_⟩, hk.mono (fun b _ hO => hp b (by unfold Out at hO; omega) (by unfold Out at hO; omega))⟩
  · have hj : j < s.cl := hj
    obtain ⟨a1, a2⟩ := k3 j hj
    show _ ∧ (ck.setIfInBounds (c * 2 + 1) v)[j * 2 + 1]? = some (upN R.av c v j)
    by_cases e : j = c
    · subst e
      rw [upN_same, Array.getElem?_setIfInBounds_self, if_pos (by omega), Array.getElem?_setIfInBounds_ne (by omega)]
      exact ⟨a1, rfl⟩
    · rw [upN_ne _ _ _ _ e, Array.getElem?_setIfInBounds_ne (by omega), Array.getElem?_setIfInBounds_ne (by omega)]
      exact ⟨a1, a2⟩
  · have hj : j < s.cl := hj
    show AckAt w' (upN R.av c v j) (upN s.acks c l j)
    by_cases e : j = c
    · subst e; rw [upN_same, upN_same]; exact hv
    · rw [upN_ne _ _ _ _ e, upN_ne _ _ _ _ e]
      exact (h.acks j hj).keep hk (fun b hb' => hp b (by have := h.oac j b hj hb'; omega) (by have := h.oac j b hj hb'; omega))
  · show ext own w.heap.size (T + 20 + c) R.rb = T
    rw [ext_lt (block_lt h.gate)]; exact h.og
  · show ext own w.heap.size (T + 20 + c) R.lb = T
    rw [ext_lt (block_lt l1)]; exact h.ol
  · show ext own w.heap.size (T + 20 + c) R.kb = T
    rw [ext_lt (block_lt k1)]; exact h.ok
  · rw [ext_lt (ownsRow_lt (h.lane j hj) b hb')]; exact h.oln j b hj hb'
  · rw [ext_lt ((h.ring j hj).lt b hb')]; exact h.ori j b hj hb'
  · have hj : j < s.cl := hj
    replace hb' : (upN R.av c v j).ownBlock = some b := hb'
    by_cases e : j = c
    · subst e
      rw [upN_same] at hb'
      rcases hb b hb' with q | q
      · rw [ext_lt ((h.acks j hj).lt b q)]; exact h.oac j b hj q
      · exact ext_ge q
    · rw [upN_ne _ _ _ _ e] at hb'
      rw [ext_lt ((h.acks j hj).lt b hb')]; exact h.oac j b hj hb'
  · rw [ext_lt (ownsRow_lt (h.book a ha) b hb')]; exact h.obk a b ha hb'

end Go.Proofs.YtjhifhoniimfgaaGreat

/-
  What a frame says is done, by the document: the walks.
-/
namespace Go.Proofs.YtjhifhoniimfgaaGreat
open Go.RowKit

set_option maxHeartbeats 400000 in
theorem does_wrong (rb : Nat) (lane V : Int) (s : ByteArray) (w : World) (hV : (V != 0) = true) (Y : World → Prop)
    (hw : Calls Tryz.prog 67 #[.pointer (some ⟨rb, 0, none⟩), .int .i64 lane, .string s] w fun e w' => e = .returned (.int .i64 V) ∧ Y w') :
    Calls Tryz.prog 55 #[.pointer (some ⟨rb, 0, none⟩), .int .i64 lane, .string s] w fun e w' => e = .returned (.int .i64 V) ∧ Y w' := by
  go_enter Tryz.func55, Tryz.ntmps55
  go_wp2_with fail
  refine hw.mono ?_
  rintro e w1 ⟨rfl, hy⟩
  go_wp2_with fail
  go_ret
  exact ⟨rfl, hy⟩

set_option maxRecDepth 100000 in
set_option maxHeartbeats 1000000 in
theorem does_kill (rb k : Nat) (st : Bool) (lane : Int) (s : ByteArray) (w : World) (hs : s.size = 32) (hk : byteAt s 0 = 3) (hk1 : byteAt s 1 = k) (hk4 : k < 4) (Y : World → Prop)
    (hw : Calls Tryz.prog 67 #[.pointer (some ⟨rb, 0, none⟩), .int .i64 lane, .string s] w fun e w' => e = .returned (.int .i64 0) ∧ Y w')
    (hY : ∀ W, Y W → W.cell? ⟨rb, 22 + k, none⟩ = some (.bool st) ∧ W.frozen? ⟨rb, 22 + k, none⟩ = false) :
    Calls Tryz.prog 55 #[.pointer (some ⟨rb, 0, none⟩), .int .i64 lane, .string s] w fun e w' => e = .returned (.int .i64 0) ∧ ∃ w1, Y w1 ∧ w1.setCell ⟨rb, 22 + k, none⟩ (.bool true) = w' := by
  have e0 : s[0].toNat = 3 := by rw [← byteAt_eq s 0 (by omega)]; exact hk
  have h255 : (s[1].toNat : Int) ≤ 255 := by have := UInt8.toNat_lt s[1]; omega
  have h255b : (s[2].toNat : Int) ≤ 255 := by have := UInt8.toNat_lt s[2]; omega

  have n4 := fun w => number_any (s.extract 4 8) w (size_extract_le _ _ _ hs)
  generalize numOk (s.extract 4 8) = o4 at n4
  have e1 : s[1].toNat = k := by rw [← byteAt_eq s 1 (by omega)]; exact hk1
  have HY : Hid (∀ W, Y W → W.cell? ⟨rb, 22 + k, none⟩ = some (.bool st) ∧ W.frozen? ⟨rb, 22 + k, none⟩ = false) := hY
  have hk4' : (k : Int) < 4 := by omega


  clear hk hk1 hY
  generalize numV (s.extract 4 8) = v4 at n4
  go_enter Tryz.func55, Tryz.ntmps55
  go_wp2_with fail
  refine hw.mono ?_
  rintro e w1 ⟨rfl, hy⟩
  go_wp2_with fail
  refine (n4 _).mono ?_
  rintro e w' ⟨rfl, rfl⟩
  obtain ⟨y1, y2⟩ := HY.out w1 hy
  go_wp2_with fail
  go_ret
  exact ⟨rfl, w1, hy, rfl⟩


set_option maxRecDepth 100000 in
set_option maxHeartbeats 1000000 in
theorem does_unkill (rb k : Nat) (st : Bool) (lane : Int) (s : ByteArray) (w : World) (hs : s.size = 32) (hk : byteAt s 0 = 4) (hk1 : byteAt s 1 = k) (hk4 : k < 4) (Y : World → Prop)
    (hw : Calls Tryz.prog 67 #[.pointer (some ⟨rb, 0, none⟩), .int .i64 lane, .string s] w fun e w' => e = .returned (.int .i64 0) ∧ Y w')
    (hY : ∀ W, Y W → W.cell? ⟨rb, 22 + k, none⟩ = some (.bool st) ∧ W.frozen? ⟨rb, 22 + k, none⟩ = false) :
    Calls Tryz.prog 55 #[.pointer (some ⟨rb, 0, none⟩), .int .i64 lane, .string s] w fun e w' => e = .returned (.int .i64 0) ∧ ∃ w1, Y w1 ∧ w1.setCell ⟨rb, 22 + k, none⟩ (.bool false) = w' := by
  have e0 : s[0].toNat = 4 := by rw [← byteAt_eq s 0 (by omega)]; exact hk
  have h255 : (s[1].toNat : Int) ≤ 255 := by have := UInt8.toNat_lt s[1]; omega
  have h255b : (s[2].toNat : Int) ≤ 255 := by have := UInt8.toNat_lt s[2]; omega

  have n4 := fun w => number_any (s.extract 4 8) w (size_extract_le _ _ _ hs)
  generalize numOk (s.extract 4 8) = o4 at n4
  have e1 : s[1].toNat = k := by rw [← byteAt_eq s 1 (by omega)]; exact hk1
  have HY : Hid (∀ W, Y W → W.cell? ⟨rb, 22 + k, none⟩ = some (.bool st) ∧ W.frozen? ⟨rb, 22 + k, none⟩ = false) := hY
  have hk4' : (k : Int) < 4 := by omega


  clear hk hk1 hY
  generalize numV (s.extract 4 8) = v4 at n4
  go_enter Tryz.func55, Tryz.ntmps55
  go_wp2_with fail
  refine hw.mono ?_
  rintro e w1 ⟨rfl, hy⟩
  go_wp2_with fail
  refine (n4 _).mono ?_
  rintro e w' ⟨rfl, rfl⟩
  obtain ⟨y1, y2⟩ := HY.out w1 hy
  go_wp2_with fail
  go_ret
  exact ⟨rfl, w1, hy, rfl⟩


set_option maxRecDepth 100000 in
set_option maxHeartbeats 2000000 in
theorem does_new (rb k : Nat) (time c : Int) (lane : Int) (s : ByteArray) (w : World) (hs : s.size = 32) (hk : byteAt s 0 = 1) (hk1 : byteAt s 1 = k) (ht : 0 ≤ time) (ht2 : time ≤ 1099511627777) (hl2 : numV (s.extract 24 32) ≤ 1000000) (Y Q : World → Prop)
    (hw : Calls Tryz.prog 67 #[.pointer (some ⟨rb, 0, none⟩), .int .i64 lane, .string s] w fun e w' => e = .returned (.int .i64 0) ∧ Y w')
    (hY : ∀ W, Y W → W.cell? ⟨rb, 6, none⟩ = some (.int .i64 time))
    (hnews : ∀ W n, Y W → Calls Tryz.prog 69 #[.pointer (some ⟨rb, 0, none⟩), .int .i64 k, .agg #[.int .i64 (numV (s.extract 4 8)), .int .i64 (byteAt s 2), .int .i64 (numV (s.extract 8 16)), .int .i64 (numV (s.extract 16 24)), .int .i64 time, .int .i64 (time + numV (s.extract 24 32)), .bool false]] (W.drewN n) fun e w' => e = .returned (.int .i64 c) ∧ Q w' ∧ w'.cell? ⟨rb, 6, none⟩ = some (.int .i64 time)) :
    Calls Tryz.prog 55 #[.pointer (some ⟨rb, 0, none⟩), .int .i64 lane, .string s] w fun e w' => e = .returned (.int .i64 c) ∧ Q w' := by
  have e0 : s[0].toNat = 1 := by rw [← byteAt_eq s 0 (by omega)]; exact hk
  have h255 : (s[1].toNat : Int) ≤ 255 := by have := UInt8.toNat_lt s[1]; omega
  have h255b : (s[2].toNat : Int) ≤ 255 := by have := UInt8.toNat_lt s[2]; omega

  have n4 := fun w => number_any (s.extract 4 8) w (size_extract_le _ _ _ hs)
  generalize numOk (s.extract 4 8) = o4 at n4
  have e1 : s[1].toNat = k := by rw [← byteAt_eq s 1 (by omega)]; exact hk1
  have e2 : (byteAt s 2 : Int) = s[2].toNat := by rw [byteAt_eq s 2 (by omega)]
  rw [e2] at hnews
  have n8 := fun w => number_any (s.extract 8 16) w (size_extract_le _ _ _ hs)
  generalize numOk (s.extract 8 16) = o8 at n8
  have n16 := fun w => number_any (s.extract 16 24) w (size_extract_le _ _ _ hs)
  generalize numOk (s.extract 16 24) = o16 at n16
  have n24 := fun w => number_any (s.extract 24 32) w (size_extract_le _ _ _ hs)
  generalize numOk (s.extract 24 32) = o24 at n24
  have hl1 := (numV_bd (s.extract 24 32)).1
  have HY : Hid (∀ W, Y W → W.cell? ⟨rb, 6, none⟩ = some (.int .i64 time)) := hY

  clear hk hk1 hY e2
  generalize numV (s.extract 4 8) = v4 at *
  generalize numV (s.extract 8 16) = v8 at *
  generalize numV (s.extract 16 24) = v16 at *
  generalize numV (s.extract 24 32) = v24 at *
  have hwr2 : IntKind.i64.wrap (s[2].toNat : Int) = (s[2].toNat : Int) := by rw [IntKind.wrap_i64]; omega
  have hadd : IntKind.i64.wrap (time + v24) = time + v24 := by rw [IntKind.wrap_i64]; omega
  go_enter Tryz.func55, Tryz.ntmps55
  go_wp2_with fail
  refine hw.mono ?_
  rintro e w1 ⟨rfl, hy⟩
  go_wp2_with fail
  refine (n4 _).mono ?_
  rintro e w' ⟨rfl, rfl⟩
  have g6 := HY.out w1 hy
  go_wp2_with fail
  refine (n8 _).mono ?_
  rintro e w' ⟨rfl, rfl⟩
  go_wp2_with fail
  refine (n16 _).mono ?_
  rintro e w' ⟨rfl, rfl⟩
  go_wp2_with fail
  refine (n24 _).mono ?_
  rintro e w' ⟨rfl, rfl⟩
  go_wp2_with fail
  refine wp_region_noPanic ?_
  refine wp_region_held_drew (S := (fun W => W.cell? ⟨rb, 6, none⟩ = some (.int .i64 time))) (by kernel_rfl) g6 (fun _ => ?_)
  refine wpAnyH_take (i := 0) (v := ?_) rfl (by kernel_rfl) (by kernel_rfl) (by kernel_rfl) (fun _ _ _ h => h) (Or.inl ⟨by rfl, ?_⟩) g6 ?_
  rotate_left
  (intro w hSw; go_simp)
  try with_reducible rfl
  simp only [Act.put]
  refine wpAnyH_take (i := 1) (v := ?_) rfl (by kernel_rfl) (by kernel_rfl) (by kernel_rfl) (fun _ _ _ h => h) (Or.inl ⟨by rfl, ?_⟩) g6 ?_
  rotate_left
  (intro w hSw; go_simp)
  try with_reducible rfl
  simp only [Act.put]
  refine wpAnyH_take (i := 2) (v := ?_) rfl (by kernel_rfl) (by kernel_rfl) (by kernel_rfl) (fun _ _ _ h => h) (Or.inl ⟨by rfl, ?_⟩) g6 ?_
  rotate_left
  (intro w hSw; go_simp)
  try with_reducible rfl
  simp only [Act.put]
  refine wpAnyH_take (i := 3) (v := ?_) rfl (by kernel_rfl) (by kernel_rfl) (by kernel_rfl) (fun _ _ _ h => h) (Or.inl ⟨by rfl, ?_⟩) g6 ?_
  rotate_left
  (intro w hSw; go_simp)
  try with_reducible rfl
  simp only [Act.put]
  refine wpAnyH_take (i := 4) (v := ?_) rfl (by kernel_rfl) (by kernel_rfl) (by kernel_rfl) (fun _ _ _ h => h) (Or.inl ⟨by rfl, ?_⟩) g6 ?_
  rotate_left
  (intro w hSw; go_simp)
  try with_reducible rfl
  simp only [Act.put]
  refine wpAnyH_take (i := 5) (v := ?_) rfl (by kernel_rfl) (by kernel_rfl) (by kernel_rfl) (fun _ _ _ h => h) (Or.inl ⟨by rfl, ?_⟩) g6 ?_
  rotate_left
  (intro w hSw; go_simp)
  try with_reducible rfl
  simp only [Act.put]
  refine wpAnyH_take (i := 6) (v := ?_) rfl (by kernel_rfl) (by kernel_rfl) (by kernel_rfl) (fun _ _ _ h => h) (Or.inl ⟨by rfl, ?_⟩) g6 ?_
  rotate_left
  (intro w hSw; go_simp)
  try with_reducible rfl
  simp only [Act.put]
  refine wpAnyH_take (i := 7) (v := ?_) rfl (by kernel_rfl) (by kernel_rfl) (by kernel_rfl) (fun _ _ _ h => h) (Or.inl ⟨by rfl, ?_⟩) g6 ?_
  rotate_left
  (intro w hSw; go_simp)
  try with_reducible rfl
  simp only [Act.put]
  refine wpAnyH_take (i := 8) (v := ?_) rfl (by kernel_rfl) (by kernel_rfl) (by kernel_rfl) (fun _ _ _ h => h) (Or.inl ⟨by rfl, ?_⟩) g6 ?_
  rotate_left
  (intro w hSw; go_simp)
  try with_reducible rfl
  simp only [Act.put]
  refine wpAnyH_take (i := 9) (v := ?_) rfl (by kernel_rfl) (by kernel_rfl) (by kernel_rfl) (fun _ _ _ h => h) (Or.inl ⟨by rfl, ?_⟩) g6 ?_
  rotate_left
  (intro w hSw; go_simp)
  try with_reducible rfl
  simp only [Act.put]
  refine wpAnyH_take (i := 10) (v := ?_) rfl (by kernel_rfl) (by kernel_rfl) (by kernel_rfl) (fun _ _ _ h => h) (Or.inl ⟨by rfl, ?_⟩) g6 ?_
  rotate_left
  (intro w hSw; go_simp)
  try with_reducible rfl
  simp only [Act.put]
  refine wpAnyH_take (i := 11) (v := ?_) rfl (by kernel_rfl) (by kernel_rfl) (by kernel_rfl) (fun _ _ _ h => h) (Or.inl ⟨by rfl, ?_⟩) g6 ?_
  rotate_left
  (intro w hSw; go_simp)
  try with_reducible rfl
  simp only [Act.put]
  refine wpAnyH_take (i := 12) (v := ?_) rfl (by kernel_rfl) (by kernel_rfl) (by kernel_rfl) (fun _ _ _ h => h) (Or.inl ⟨by rfl, ?_⟩) g6 ?_
  rotate_left
  (intro w hSw; go_simp)
  try with_reducible rfl
  simp only [Act.put]
  refine wpAnyH_take (i := 13) (v := ?_) rfl (by kernel_rfl) (by kernel_rfl) (by kernel_rfl) (fun _ _ _ h => h) (Or.inl ⟨by rfl, ?_⟩) g6 ?_
  rotate_left
  (intro w hSw; go_simp)
  try with_reducible rfl
  simp only [Act.put]
  refine wpAnyH_take (i := 14) (v := ?_) rfl (by kernel_rfl) (by kernel_rfl) (by kernel_rfl) (fun _ _ _ h => h) (Or.inl ⟨by rfl, ?_⟩) g6 ?_
  rotate_left
  (intro w hSw; go_simp)
  try with_reducible rfl
  simp only [Act.put]
  refine wpAnyH_take (i := 15) (v := ?_) rfl (by kernel_rfl) (by kernel_rfl) (by kernel_rfl) (fun _ _ _ h => h) (Or.inl ⟨by rfl, ?_⟩) g6 ?_
  rotate_left
  (intro w hSw; go_simp)
  try with_reducible rfl
  simp only [Act.put]
  refine wpAnyH_take (i := 16) (v := ?_) rfl (by kernel_rfl) (by kernel_rfl) (by kernel_rfl) (fun _ _ _ h => h) (Or.inl ⟨by rfl, ?_⟩) g6 ?_
  rotate_left
  (intro w hSw; go_simp)
  try with_reducible rfl
  simp only [Act.put]
  refine wpAnyH_take (i := 17) (v := ?_) rfl (by kernel_rfl) (by kernel_rfl) (by kernel_rfl) (fun _ _ _ h => h) (Or.inl ⟨by rfl, ?_⟩) g6 ?_
  rotate_left
  (intro w hSw; go_simp)
  try with_reducible rfl
  simp only [Act.put]
  refine wpAnyH_take (i := 18) (v := ?_) rfl (by kernel_rfl) (by kernel_rfl) (by kernel_rfl) (fun _ _ _ h => h) (Or.inl ⟨by rfl, ?_⟩) g6 ?_
  rotate_left
  (intro w hSw; go_simp)
  try with_reducible rfl
  simp only [Act.put]
  refine wpAnyH_ready (rs := [19]) (by kernel_rfl) (by simp) ?_
  refine AllReadyH.cons rfl (fun K hK => ?_) AllReadyH.nil
  go_simp
  refine (hnews w1 1 hy).mono ?_
  rintro e w2 ⟨rfl, hq2, g62⟩
  go_wp2_with fail
  refine hK.out _ _ g62 (fun _ => ?_)
  clear hK K
  refine wpAnyH_ready (rs := [20]) (by kernel_rfl) (by simp) ?_
  refine AllReadyH.cons rfl (fun K hK => ?_) AllReadyH.nil
  go_simp
  refine hK.out _ _ g62 (fun _ => ?_)
  clear hK K
  refine wpAnyH_done (by kernel_rfl) (NoPanic.normal ?_) _
  go_wp2_with fail
  go_ret
  exact ⟨by first | rfl | simp, hq2⟩


/-- Is this the order that is asked for, and open? -/
def hits (time num : Int) (x : Ent) : Bool := x.order == num && isOpen time x

set_option maxRecDepth 100000 in
set_option maxHeartbeats 2000000 in
theorem does_cancel (rb k : Nat) (time : Int) (lane : Int) (s : ByteArray) (es : List Ent) (bv : Value) (w : World) (hs : s.size = 32) (hk : byteAt s 0 = 2) (hk1 : byteAt s 1 = k) (hk4 : k < 4) (hlen : es.length ≤ 1099511627776) (Y Q : World → Prop)
    (hw : Calls Tryz.prog 67 #[.pointer (some ⟨rb, 0, none⟩), .int .i64 lane, .string s] w fun e w' => e = .returned (.int .i64 0) ∧ Y w')
    (hY : ∀ W, Y W → W.cell? ⟨rb, 6, none⟩ = some (.int .i64 time) ∧ W.cell? ⟨rb, 18 + k, none⟩ = some bv ∧ W.ownsRow 0 160 7 bv es.length (entFlat es))
    (c : Int) (hno : ∀ W W', Y W → Below W.heap.size W W' → (∀ x, x ∈ es → hits time (numV (s.extract 4 8)) x = false) → Q W' ∧ c = 18)
    (hyes : ∀ W W' j x g n cap, Y W → Below W.heap.size W W' → es[j]? = some x → (∀ y, y ∈ es.take j → hits time (numV (s.extract 4 8)) y = false) → hits time (numV (s.extract 4 8)) x = true → bv = .slice (some ⟨g, 0, none⟩) n cap → Q (W'.setCell ⟨g, j * 7 + 6, none⟩ (.bool true)) ∧ c = 0) :
    Calls Tryz.prog 55 #[.pointer (some ⟨rb, 0, none⟩), .int .i64 lane, .string s] w fun e w' => e = .returned (.int .i64 c) ∧ Q w' := by
  have e0 : s[0].toNat = 2 := by rw [← byteAt_eq s 0 (by omega)]; exact hk
  have h255 : (s[1].toNat : Int) ≤ 255 := by have := UInt8.toNat_lt s[1]; omega
  have h255b : (s[2].toNat : Int) ≤ 255 := by have := UInt8.toNat_lt s[2]; omega

  have n4 := fun w => number_any (s.extract 4 8) w (size_extract_le _ _ _ hs)
  generalize numOk (s.extract 4 8) = o4 at n4
  have e1 : s[1].toNat = k := by rw [← byteAt_eq s 1 (by omega)]; exact hk1
  have HY := hide' hY
  have HNO := hide' hno
  have HYES := hide' hyes

  have hk4' : (k : Int) < 4 := by omega
  clear hk hk1 hY hno hyes
  generalize numV (s.extract 4 8) = v4 at *
  go_enter Tryz.func55, Tryz.ntmps55
  go_wp2_with fail
  refine hw.mono ?_
  rintro e w1 ⟨rfl, hy⟩
  go_wp2_with fail
  refine (n4 _).mono ?_
  rintro e w' ⟨rfl, rfl⟩
  obtain ⟨g6, g18, hrow⟩ := HY.out w1 hy
  obtain ⟨ba, bc, hbv, hbook⟩ := ents_cells hrow
  have hltr := World.block_lt_of_cell? w1 _ g6
  have HBK := hide' hbook
  have HBV := hide' hbv
  rw [hbv] at g18
  have HZF : Hid (∀ g, ba = some ⟨g, 0, none⟩ → es.length ≠ 0 → ∀ i, w1.frozen? ⟨g, i, none⟩ = false) := fun g hg hne i => by
    rcases hrow.2 with ⟨q, q0⟩ | ⟨g2, cap2, cur, q, _, q1, _⟩
    · exact absurd q0 hne
    · rw [hbv, hg] at q
      simp only [Value.slice.injEq, Option.some.injEq, Addr.mk.injEq, and_true, true_and] at q
      rw [q.1]
      exact frozenAt q1
  clear hbook hrow hbv
  go_wp2_with fail
  go_loopw [17] (fun i wr => ∃ j : Nat, j ≤ es.length ∧ i = .int .i64 j ∧ (∀ y, y ∈ es.take j → hits time v4 y = false) ∧ Below w1.heap.size w1 wr) (fun i _ => es.length - (intOf i).toNat)
  case atStart => exact ⟨0, Nat.zero_le _, rfl, fun y hy => by simp at hy, Below.refl _ _⟩
  case round =>
    obtain ⟨j, hj, rfl, hfirst, hb⟩ := hrel
    have HF := hide' hfirst
    have HB := hide' hb
    have r6 : wr.cell? ⟨rb, 6, none⟩ = some (.int .i64 time) := by rw [hb.cell hltr]; exact g6
    have r18 : wr.cell? ⟨rb, 18 + k, none⟩ = some (.slice ba es.length bc) := by rw [hb.cell hltr]; exact g18
    have hsz1 := hb.size
    have hltr2 : rb < wr.heap.size := by have : rb < w1.heap.size := hltr; omega
    clear hfirst hb g6 g18
    by_cases hlt : j < es.length
    · have hlt' : (j : Int) < (es.length : Int) := by omega
      obtain ⟨x, hx⟩ : ∃ x, es[j]? = some x := ⟨_, List.getElem?_eq_getElem hlt⟩
      obtain ⟨g, hga, hg⟩ := HBK.out j x hx
      have HX := hide' hx
      have hz := HZF.out g hga (by omega) (j * 7 + 6)
      have HBVg : Hid (bv = .slice (some ⟨g, 0, none⟩) es.length bc) := by show _ = _; rw [HBV.out, hga]
      subst hga
      have hgl : g < w1.heap.size := World.block_lt_of_cell? w1 _ (hg 6 _ rfl)
      have hgl2 : g < wr.heap.size := by omega
      have hb := HB.out
      have d0 := hg 0 _ rfl
      have d1 := hg 1 _ rfl
      have d2 := hg 2 _ rfl
      have d3 := hg 3 _ rfl
      have d4 := hg 4 _ rfl
      have d5 := hg 5 _ rfl
      have d6 := hg 6 _ rfl
      rw [← hb.cell (p := ⟨g, _, none⟩) hgl] at d0 d1 d2 d3 d4 d5 d6
      rw [← hb.frozen (p := ⟨g, _, none⟩) hgl] at hz
      simp only [Nat.add_zero] at d0
      have HT : Hid (hits time v4 x = false → ∀ y, y ∈ es.take (j + 1) → hits time v4 y = false) := fun h0 y hy => by
        rw [List.take_add_one, HX.out] at hy
        rcases List.mem_append.1 hy with hy | hy
        · exact HF.out y hy
        · simp at hy; subst hy; exact h0
      clear hg hx hb
      cases hon : (x.order == v4)
      · have HH : Hid (hits time v4 x = false) := by show _ = _; unfold hits; rw [hon]; rfl
        go_wp2_with fail
        go_quiet (fail)
        go_wp2_with fail
        go_roundw
        case rel => exact ⟨j + 1, by omega, by go_num, HT.out HH.out, below_drewN (HB.out.alloc hsz1 _) nq⟩
        case measure => simp [intOf]; omega
      · cases hgo : x.gone
        · by_cases htt : time < x.till
          · have htd : decide (time < x.till) = true := decide_eq_true htt
            have HH : Hid (hits time v4 x = true) := by show _ = _; unfold hits isOpen; rw [hon, hgo, htd]; rfl
            have HQ := hide' (HYES.out w1 _ j x g _ _ hy (below_drewN (HB.out.alloc hsz1 (.cells #[.int .i64 x.order, .int .i64 x.side, .int .i64 x.price, .int .i64 x.qty, .int .i64 x.frm, .int .i64 x.till, .bool x.gone] 160)) 1) HX.out HF.out HH.out HBVg.out)
            have HQ' := fun n => hide' (HYES.out w1 _ j x g _ _ hy (below_drewN (HB.out.alloc hsz1 (.cells #[.int .i64 x.order, .int .i64 x.side, .int .i64 x.price, .int .i64 x.qty, .int .i64 x.frm, .int .i64 x.till, .bool x.gone] 160)) n) HX.out HF.out HH.out HBVg.out)
            clear HQ
            rw [hgo] at HQ' d6
            go_wp2_with fail
            go_quiet (fail)
            go_wp2_with fail
            go_ret
            exact ⟨by rw [(HQ' nq).out.2]; rfl, (HQ' nq).out.1⟩
          · have htd : decide (time < x.till) = false := decide_eq_false htt
            have HH : Hid (hits time v4 x = false) := by show _ = _; unfold hits isOpen; rw [hon, hgo, htd]; rfl
            go_wp2_with fail
            go_quiet (fail)
            go_wp2_with fail
            go_roundw
            case rel => exact ⟨j + 1, by omega, by go_num, HT.out HH.out, below_drewN (HB.out.alloc hsz1 _) nq⟩
            case measure => simp [intOf]; omega
        · have HH : Hid (hits time v4 x = false) := by show _ = _; unfold hits isOpen; rw [hon, hgo]; rfl
          go_wp2_with fail
          go_quiet (fail)
          go_wp2_with fail
          go_roundw
          case rel => exact ⟨j + 1, by omega, by go_num, HT.out HH.out, below_drewN (HB.out.alloc hsz1 _) nq⟩
          case measure => simp [intOf]; omega
    · obtain rfl : j = es.length := by omega
      have hge : ¬ (es.length : Int) < (es.length : Int) := by omega
      have HQ := hide' (HNO.out w1 wr hy HB.out (fun x hx => HF.out x (by rw [List.take_length]; exact hx)))
      go_wp2_with fail
      go_ret
      exact ⟨by rw [HQ.out.2]; rfl, HQ.out.1⟩

end Go.Proofs.YtjhifhoniimfgaaGreat

