/-
  Rows of bytes and of words in memory: what a cell reads, what a store makes of them (carried over from layer 2).
-/
import Derived.Test.YtbgfkjafablfiaaRows
import Derived.WalkKit
import Derived.ProofKit
import Derived.WalkLawsBesides
import Derived.WalkSpells
import Derived.Deep.Draws
import Derived.Lib.Hide
import Derived.Laws.OwnMore
import Derived.Laws.Rows
import Derived.Below
import Derived.Laws.CopyOwn
namespace Go.Proofs.Ytbgfkjafablfiaa
open Go.RowKit

/-- The cells of bytes, of words. -/
@[irreducible] def byC (l : List UInt8) : List Value := l.map fun b => .int .u8 (b.toNat : Int)
theorem byC_eq (l : List UInt8) : byC l = l.map fun b => Value.int .u8 (b.toNat : Int) := by unfold byC; rfl
theorem byC_length (l : List UInt8) : (byC l).length = l.length := by simp [byC_eq]
theorem byC_append (l m : List UInt8) : byC (l ++ m) = byC l ++ byC m := by simp [byC_eq]
/-- Block g is just these cells, and none is frozen. -/
def Holds (w : World) (g : Nat) (t : TypeId) (cs : List Value) : Prop := w.heap[g]? = some (.cells cs.toArray t (0, 0))

section
variable {w w' : World} {g : Nat} {t : TypeId} {cs : List Value}
theorem Holds.lt (h : Holds w g t cs) : g < w.heap.size := (Array.getElem?_eq_some_iff.1 h).1
theorem Holds.cell (h : Holds w g t cs) {i : Nat} {v : Value} (hv : cs[i]? = some v) : w.cell? ⟨g, i, none⟩ = some v := by
  rw [cell_of_row w g i _ t _ h]; simpa using hv
theorem Holds.frozen (h : Holds w g t cs) (i : Nat) : w.frozen? ⟨g, i, none⟩ = false := frozen_of_row w g i _ t h
theorem Holds.set (h : Holds w g t cs) (i : Nat) (v : Value) : Holds (w.setCell ⟨g, i, none⟩ v) g t (cs.set i v) := by
  unfold Holds
  rw [heap_setCell_same w g i _ t v h]; simp
theorem Holds.aside (h : Holds w g t cs) {a : Addr} (ha : g ≠ a.block) (v : Value) : Holds (w.setCell a v) g t cs := (heap_setCell_other w a g v ha).trans h
theorem Holds.alloc (h : Holds w g t cs) (o : Obj) : Holds (w.alloc o) g t cs := (Below.heap_alloc w o g h.lt).trans h
theorem Holds.new (w : World) (t : TypeId) (cs : Array Value) : Holds (w.alloc (.cells cs t)) w.heap.size t cs.toList := by
  unfold Holds; rw [heap_alloc_new]
theorem Holds.below {B : Nat} (h : Holds w g t cs) (hb : Below B w w') (hg : g < B) : Holds w' g t cs := (hb.block g hg).trans h
theorem Holds.grown {row : Option Nat} (h : Holds w g t cs) (hb : w.grownBy w' row) (hg : some g ≠ row) : Holds w' g t cs := (hb.block g h.lt hg).trans h
theorem Holds.rowAside (h : Holds w g t cs) {k : Nat} (hk : g ≠ k) (cs' : Array Value) : Holds (w.setRow k cs') g t cs := (setRow_other w k g cs' hk).trans h
theorem Holds.row (h : Holds w g t cs) (cs' : List Value) : Holds (w.setRow g cs'.toArray) g t cs' := setRow_heap w g _ _ t _ h
end
theorem Holds.drewN' {w : World} {g : Nat} {t : TypeId} {cs : List Value} (h : Holds w g t cs) (n : Nat) : Holds (w.drewN n) g t cs := h
theorem below_drewN {B : Nat} {a w : World} (h : Below B a w) (n : Nat) : Below B a (w.drewN n) := ⟨h.os, h.tape, h.output, h.size, h.block⟩
/-- The world under one name, with what is known of it. -/
theorem world_name {P : Program} {ops : Array Oper} {rest : List Oper} {a : Act} {Q : Exit → Act → World → Prop} {w : World} (F : World → Prop) (hf : F w) (h : ∀ w', F w' → wpList P ops Q rest a w') : wpList P ops Q rest a w := h w hf
theorem byC_at {l : List UInt8} {i : Nat} (h : i < l.length) : (byC l)[i]? = some (.int .u8 ((l.getD i 0).toNat : Int)) := by
  rw [byC_eq, List.getElem?_map, List.getElem?_eq_getElem h, List.getD_eq_getElem?_getD, List.getElem?_eq_getElem h]; rfl
theorem set_mid {α : Type} (L R : List α) (x y : α) (k : Nat) (hk : L.length = k) : (L ++ y :: R).set k x = (L ++ [x]) ++ R := by
  subst hk
  rw [List.set_append_right _ _ (Nat.le_refl _), Nat.sub_self]; simp
/-- The next of the noughts behind what stands there. -/
theorem byC_put (L : List UInt8) (x : UInt8) (v : Int) (k m : Nat) (hk : L.length = k) (hm : k < m) (hv : (x.toNat : Int) = v) :
    (byC (L ++ List.replicate (m - k) 0)).set k (.int .u8 v) = byC ((L ++ [x]) ++ List.replicate (m - (k + 1)) 0) := by
  subst hv
  rw [show m - k = (m - (k + 1)) + 1 by omega, List.replicate_succ, byC_append, byC_append, byC_append]
  simp only [byC_eq, List.map_cons]
  rw [set_mid _ _ _ _ _ (by simp [hk])]; rfl
theorem getD_left {α : Type} (L R : List α) (k : Nat) (d : α) (h : k < L.length) : (L ++ R).getD k d = L.getD k d := by
  rw [List.getD_eq_getElem?_getD, List.getD_eq_getElem?_getD, List.getElem?_append_left h]
end Go.Proofs.Ytbgfkjafablfiaa
