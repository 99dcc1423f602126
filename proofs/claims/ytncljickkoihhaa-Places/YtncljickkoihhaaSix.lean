/-
  Six cells in a row that are written, one behind the other.
-/
import Derived.Test.YtncljickkoihhaaMem
namespace Go.Proofs.Ytncljickkoihhaa
open Go.RowKit

def set6 (c : Array Value) (o : Nat) (a0 a1 a2 a3 a4 a5 : Value) : Array Value :=
  (((((c.setIfInBounds o a0).setIfInBounds (o + 1) a1).setIfInBounds (o + 2) a2).setIfInBounds (o + 3) a3).setIfInBounds (o + 4) a4).setIfInBounds (o + 5) a5

theorem size_set6 (c : Array Value) (o : Nat) (a0 a1 a2 a3 a4 a5 : Value) : (set6 c o a0 a1 a2 a3 a4 a5).size = c.size := by simp [set6]

theorem set6_other (c : Array Value) (o : Nat) (a0 a1 a2 a3 a4 a5 : Value) (j : Nat) (h : j < o ∨ o + 6 ≤ j) : (set6 c o a0 a1 a2 a3 a4 a5)[j]? = c[j]? := by
  unfold set6
  rw [Array.getElem?_setIfInBounds_ne (by omega), Array.getElem?_setIfInBounds_ne (by omega), Array.getElem?_setIfInBounds_ne (by omega), Array.getElem?_setIfInBounds_ne (by omega), Array.getElem?_setIfInBounds_ne (by omega), Array.getElem?_setIfInBounds_ne (by omega)]

theorem set6_at (c : Array Value) (o : Nat) (a0 a1 a2 a3 a4 a5 : Value) (h : o + 6 ≤ c.size) (t : Nat) (ht : t < 6) :
    (set6 c o a0 a1 a2 a3 a4 a5)[o + t]? = [a0, a1, a2, a3, a4, a5][t]? := by
  unfold set6
  rcases (show t = 0 ∨ t = 1 ∨ t = 2 ∨ t = 3 ∨ t = 4 ∨ t = 5 by omega) with rfl | rfl | rfl | rfl | rfl | rfl
  · rw [Array.getElem?_setIfInBounds_ne (by omega), Array.getElem?_setIfInBounds_ne (by omega), Array.getElem?_setIfInBounds_ne (by omega), Array.getElem?_setIfInBounds_ne (by omega), Array.getElem?_setIfInBounds_ne (by omega), Nat.add_zero, Array.getElem?_setIfInBounds_self, if_pos (by omega)]; rfl
  · rw [Array.getElem?_setIfInBounds_ne (by omega), Array.getElem?_setIfInBounds_ne (by omega), Array.getElem?_setIfInBounds_ne (by omega), Array.getElem?_setIfInBounds_ne (by omega), Array.getElem?_setIfInBounds_self, if_pos (by simp; omega)]; rfl
  · rw [Array.getElem?_setIfInBounds_ne (by omega), Array.getElem?_setIfInBounds_ne (by omega), Array.getElem?_setIfInBounds_ne (by omega), Array.getElem?_setIfInBounds_self, if_pos (by simp; omega)]; rfl
  · rw [Array.getElem?_setIfInBounds_ne (by omega), Array.getElem?_setIfInBounds_ne (by omega), Array.getElem?_setIfInBounds_self, if_pos (by simp; omega)]; rfl
  · rw [Array.getElem?_setIfInBounds_ne (by omega), Array.getElem?_setIfInBounds_self, if_pos (by simp; omega)]; rfl
  · rw [Array.getElem?_setIfInBounds_self, if_pos (by simp; omega)]; rfl

/-- A world in which six cells of block L, from o on, have been written. -/
def put6 (w : World) (L o : Nat) (a0 a1 a2 a3 a4 a5 : Value) : World :=
  (((((w.setCell ⟨L, o, none⟩ a0).setCell ⟨L, o + 1, none⟩ a1).setCell ⟨L, o + 2, none⟩ a2).setCell ⟨L, o + 3, none⟩ a3).setCell ⟨L, o + 4, none⟩ a4).setCell ⟨L, o + 5, none⟩ a5

theorem put6_heap {w : World} {L o : Nat} {T : TypeId} {c : Array Value} (a0 a1 a2 a3 a4 a5 : Value) (h : w.heap[L]? = some (.cells c T (0, 0))) :
    (put6 w L o a0 a1 a2 a3 a4 a5).heap[L]? = some (.cells (set6 c o a0 a1 a2 a3 a4 a5) T (0, 0)) :=
  heap_setCell_at _ (heap_setCell_at _ (heap_setCell_at _ (heap_setCell_at _ (heap_setCell_at _ (heap_setCell_at _ h)))))

theorem put6_keep (w : World) (L o : Nat) (a0 a1 a2 a3 a4 a5 : Value) : Keep (fun b => b ≠ L) w (put6 w L o a0 a1 a2 a3 a4 a5) :=
  ((((((Keep.refl _ w).setCell _ (fun _ h => h rfl) _).setCell _ (fun _ h => h rfl) _).setCell _ (fun _ h => h rfl) _).setCell _ (fun _ h => h rfl) _).setCell _ (fun _ h => h rfl) _).setCell _ (fun _ h => h rfl) _

end Go.Proofs.Ytncljickkoihhaa
