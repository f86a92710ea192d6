/-
  A stream in memory, and what its words say of its content; no program is walked here.
-/
import Derived.Test.YtemiphbblaikjaaDoorPart
import Derived.Test.YtemiphbblaikjaaDoorCompr
namespace Go.Proofs.YtemiphbblaikjaaDoor
open Go.RowKit

/-- The cells of a stream: the state, the block, the size. -/
def StrM (w : World) (a : Nat) (s : St) (B : List UInt8) (n : Nat) : Prop := StAt w a 52 s.toL (byC B ++ [.int .u64 n])
/-- What state and block say of a content that is under way. -/
def Goes (c : List UInt8) (s : St) (B : List UInt8) : Prop := s = hst c (c.length / 64) ∧ B.length = 64 ∧ B.take (c.length % 64) = c.drop (64 * (c.length / 64))
/-- A stream with this content. -/
def Strm (w : World) (a : Nat) (c : List UInt8) : Prop := ∃ s B, StrM w a s B c.length ∧ B.length = 64 ∧ (c ≠ [] → Goes c s B)
/-- The state of the beginning as it lies in its variable. -/
def StartAt (w : World) : Prop := ∃ t fr, w.heap[0]? = some (.cells (woC start.toL).toArray t fr)
theorem StartAt.below {B : Nat} {w w' : World} (h : StartAt w) (hb : Below B w w') (hB : 2 ≤ B) : StartAt w' := by
  obtain ⟨t, fr, h⟩ := h
  exact ⟨t, fr, (hb.block 0 (by omega)).trans h⟩

section
variable {w : World} {a n : Nat} {s : St} {B : List UInt8}
theorem StrM.size (h : StrM w a s B n) (hB : B.length = 64) : w.cell? ⟨a, 72, none⟩ = some (.int .u64 n) :=
  Holds.cell h (by rw [List.getElem?_append_right (by rw [woC_length]; exact Nat.le_of_lt (by simp [St.toL])), List.getElem?_append_right (by rw [byC_length, woC_length, hB]; simp [St.toL])]; simp [byC_length, woC_length, hB, St.toL])
theorem StrM.block (h : StrM w a s B n) : ∀ j v, (byC B)[j]? = some v → w.cell? ⟨a, 8 + j, none⟩ = some v := fun j v hv => by
  refine Holds.cell h ?_
  have hj : j < (byC B).length := (List.getElem?_eq_some_iff.1 hv).1
  rw [List.getElem?_append_right (by rw [woC_length]; simp [St.toL]), List.getElem?_append_left (by simp [woC_length, St.toL]; exact hj)]
  simpa [woC_length, St.toL] using hv
theorem StrM.setSize (h : StrM w a s B n) (hB : B.length = 64) (m : Nat) (v : Int) (hv : v = (m : Int)) : StrM (w.setCell ⟨a, 72, none⟩ (.int .u64 v)) a s B m := by
  subst hv
  have := Holds.set h 72 (.int .u64 (m : Int))
  have e : (woC s.toL ++ (byC B ++ [Value.int .u64 (n : Int)])).set 72 (Value.int .u64 (m : Int)) = woC s.toL ++ (byC B ++ [Value.int .u64 (m : Int)]) := by
    rw [List.set_append_right _ _ (by simp [woC_length, St.toL]), List.set_append_right _ _ (by simp [woC_length, byC_length, hB, St.toL])]
    simp [woC_length, byC_length, hB, St.toL]
  rw [e] at this
  exact this
end
theorem splice_mid (A B C X : List Value) (m : Nat) (k : Nat) (hk : A.length = k) (h : m + X.length ≤ B.length) : splice (A ++ (B ++ C)) (k + m) X = A ++ (splice B m X ++ C) := by
  subst hk
  unfold splice
  rw [List.take_length_add_append, show A.length + m + X.length = A.length + (m + X.length) by omega, List.drop_length_add_append, List.take_append_of_le_length (by omega), List.drop_append_of_le_length h]
  simp
theorem splice_byC (B X : List UInt8) (m : Nat) : splice (byC B) m (byC X) = byC (splice B m X) := by
  unfold splice
  rw [byC_append, byC_append, byC_take, byC_drop, byC_length]
/-- What goes on when bytes come in that fill no block. -/
theorem Goes.more {c X : List UInt8} {s : St} {B : List UInt8} (h : Goes c s B) (hX : c.length % 64 + X.length < 64) : Goes (c ++ X) s (splice B (c.length % 64) X) := by
  obtain ⟨h1, h2, h3⟩ := h
  have e1 : (c ++ X).length / 64 = c.length / 64 := by rw [List.length_append]; omega
  have e2 : (c ++ X).length % 64 = c.length % 64 + X.length := by rw [List.length_append]; omega
  refine ⟨by rw [e1, hst_append _ _ _ (by omega)]; exact h1, by rw [length_splice _ _ _ (by omega)]; exact h2, ?_⟩
  rw [e1, e2, List.drop_append_of_le_length (by omega), ← h3]
  unfold splice
  rw [← List.append_assoc]
  exact List.take_left' (by rw [List.length_append, List.length_take]; omega)
/-- What goes on when bytes come in that fill the block. -/
theorem Goes.full {c X : List UInt8} {s : St} {B : List UInt8} (h : Goes c s B) (hX : c.length % 64 + X.length = 64) : Goes (c ++ X) (compr s (splice B (c.length % 64) X)) (splice B (c.length % 64) X) := by
  obtain ⟨h1, h2, h3⟩ := h
  have e1 : (c ++ X).length / 64 = c.length / 64 + 1 := by rw [List.length_append]; omega
  have e2 : (c ++ X).length % 64 = 0 := by rw [List.length_append]; omega
  have e3 : splice B (c.length % 64) X = c.drop (64 * (c.length / 64)) ++ X := by
    unfold splice
    rw [List.drop_of_length_le (by omega), List.append_nil, h3]
  refine ⟨?_, by rw [length_splice _ _ _ (by omega)]; exact h2, ?_⟩
  · rw [e1, hst, hst_append _ _ _ (by omega), ← h1, List.drop_append_of_le_length (by omega), ← e3, List.take_of_length_le (by rw [length_splice _ _ _ (by omega)]; omega)]
  · rw [e1, e2, List.take_zero, List.drop_of_length_le (by rw [List.length_append]; omega)]
theorem Goes.nil {B : List UInt8} (hB : B.length = 64) : Goes [] start B := ⟨rfl, hB, rfl⟩
theorem Goes.strm {w : World} {a : Nat} {c : List UInt8} {s : St} {B : List UInt8} (h : Goes c s B) (hm : StrM w a s B c.length) : Strm w a c := ⟨s, B, hm, h.2.1, fun _ => h⟩
theorem Strm.below {B a : Nat} {w w' : World} {c : List UInt8} (h : Strm w a c) (hb : Below B w w') (ha : a < B) : Strm w' a c := by
  obtain ⟨s, X, h1, h2⟩ := h
  exact ⟨s, X, Holds.below h1 hb ha, h2⟩
theorem Strm.lt {a : Nat} {w : World} {c : List UInt8} (h : Strm w a c) : a < w.heap.size := by
  obtain ⟨s, X, h1, h2⟩ := h
  exact Holds.lt h1
end Go.Proofs.YtemiphbblaikjaaDoor
