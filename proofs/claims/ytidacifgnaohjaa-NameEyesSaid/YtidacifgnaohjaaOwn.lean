/-
  Rows of bytes of a call's own, and the digits of a text for eyes.
-/
import Derived.Test.YtidacifgnaohjaaRefD
import Derived.Deep.AppendLies
import Derived.Deep.RegionLaw
import Derived.Lib.AppendStr
namespace Go.Proofs.Ytidacifgnaohjaa
open Go.RowKit

theorem info5 : (Try.prog.info? 5).map (fun i => (i.zero, i.size, i.bytes)) = some (some (.int .u8 0), 1, 1) := by kernel_rfl
/-- A value that owns these bytes. -/
def OwnB (w : World) (base : Nat) (v : Value) (l : List UInt8) : Prop := w.ownsRow base 5 1 v l.length (byC l)
theorem conv_own {w : World} {base : Nat} {v : Value} {l : List UInt8} (h : OwnB w base v l) : (convert 32 9 v).run Try.prog w = .ok (.string (bs l)) w := by
  rcases h.2 with ⟨rfl, h0⟩ | ⟨g, cap, cur, rfl, hb, hh, hc, hm, hs, ht⟩
  · have : l = [] := List.eq_nil_of_length_eq_zero h0
    subst this
    rw [run_convert_bytes_nil w 32 5 Try.underlying32 Try.underlying5 0 0 9 Try.underlying9, bs_eq]
    rfl
  · rw [Nat.mul_one] at ht
    refine conv_row (w := w) (g := g) (t := 5) (l := l) (rest := cur.toList.drop l.length) ?_ l.length cap rfl
    unfold Holds
    rw [← ht, List.take_append_drop, hh]
theorem bytes_new3 (W : World) (x y z : UInt8) (g : Nat) (t : TypeId) (h : Holds W g t [.int .u8 (x.toNat : Int), .int .u8 (y.toNat : Int), .int .u8 (z.toNat : Int)]) : ∀ j u, (byC [x, y, z])[j]? = some u → W.cell? ((⟨g, 0, none⟩ : Addr).add j) = some u := fun j u hu => by
  rw [add_off]
  rw [byC_eq] at hu
  exact Holds.cell h hu
theorem OwnB.lt {w : World} {base : Nat} {v : Value} {l : List UInt8} (h : OwnB w base v l) : ∀ k, v.ownBlock = some k → base ≤ k ∧ k < w.heap.size := World.ownsRow.lt h
theorem OwnB.alloc {w : World} {base : Nat} {v : Value} {l : List UInt8} (h : OwnB w base v l) (o : Obj) : (w.alloc o).ownsRow base 5 1 v l.length (byC l) := by
  rcases h.2 with ⟨hv, h0⟩ | ⟨g, cap, cur, hv, hb, hh, r⟩
  · exact ⟨h.1, .inl ⟨hv, h0⟩⟩
  · exact ⟨h.1, .inr ⟨g, cap, cur, hv, hb, (Below.heap_alloc w o g (Array.getElem?_eq_some_iff.1 hh).1).trans hh, r⟩⟩
theorem OwnB.below {w w' : World} {base : Nat} {v : Value} {l : List UInt8} (h : OwnB w base v l) {B : Nat} (hb : Below B w w') (hB : w.heap.size ≤ B) : OwnB w' base v l := by
  rcases h.2 with ⟨hv, h0⟩ | ⟨g, cap, cur, hv, hb', hh, r⟩
  · exact ⟨h.1, .inl ⟨hv, h0⟩⟩
  · exact ⟨h.1, .inr ⟨g, cap, cur, hv, hb', (hb.block g (by have := (Array.getElem?_eq_some_iff.1 hh).1; omega)).trans hh, r⟩⟩
theorem own_empty (w : World) : OwnB (w.alloc (.cells #[] 5)) w.heap.size (.slice (some ⟨w.heap.size, 0, none⟩) 0 0) [] := by
  unfold OwnB
  rw [byC_eq]
  exact World.ownsRow_lit w #[] 0 (Nat.le_refl _) (by unfold maxLen; omega) rfl
theorem strCells_eq (s : ByteArray) : Lib.strCells s = byC (bl s) := by rw [byC_eq, bl_eq]; rfl
theorem digS_get (n : Nat) (h : n < 16) (h' : n < ({ data := #[48, 49, 50, 51, 52, 53, 54, 55, 56, 57, 97, 98, 99, 100, 101, 102] } : ByteArray).size) : ({ data := #[48, 49, 50, 51, 52, 53, 54, 55, 56, 57, 97, 98, 99, 100, 101, 102] } : ByteArray)[n]'h' = hexB n := by
  have : n = 0 ∨ n = 1 ∨ n = 2 ∨ n = 3 ∨ n = 4 ∨ n = 5 ∨ n = 6 ∨ n = 7 ∨ n = 8 ∨ n = 9 ∨ n = 10 ∨ n = 11 ∨ n = 12 ∨ n = 13 ∨ n = 14 ∨ n = 15 := by omega
  rcases this with rfl | rfl | rfl | rfl | rfl | rfl | rfl | rfl | rfl | rfl | rfl | rfl | rfl | rfl | rfl | rfl <;> rfl
theorem take_snoc {α : Type} (l : List α) (k : Nat) (h : k < l.length) (d : α) : l.take (k + 1) = l.take k ++ [l.getD k d] := by
  rw [List.take_succ_eq_append_getElem h, List.getD_eq_getElem?_getD, List.getElem?_eq_getElem h]; rfl

/-- The next piece of a text, shown. -/
def shownL (r : List UInt8) : List UInt8 := if sizeL r = 0 then (r.take 1).flatMap escB else if selfL (r.take (sizeL r)) = true then r.take (sizeL r) else (r.take (sizeL r)).flatMap escB
theorem plain_nil : plainL [] = [] := rfl
theorem plain_step (r : List UInt8) (h : r ≠ []) : plainL r = shownL r ++ plainL (r.drop (max 1 (sizeL r))) := by
  unfold plainL shownL
  rw [pieces_step r h]
  by_cases hs : sizeL r = 0
  · rw [if_pos hs, if_pos hs, List.flatMap_cons, hs]
    simp [plainQ]
  · rw [if_neg hs, if_neg hs, List.flatMap_cons, show max 1 (sizeL r) = sizeL r by omega]
    simp [plainQ]
theorem esc_length (l : List UInt8) : (l.flatMap escB).length = 3 * l.length := by
  induction l with
  | nil => rfl
  | cons b l ih => rw [List.flatMap_cons, List.length_append, ih, List.length_cons]; simp [escB]; omega
theorem shown_length (r : List UInt8) (h : r ≠ []) : (shownL r).length ≤ 3 * max 1 (sizeL r) := by
  have h1 := List.length_pos_iff.2 h
  have h2 := sizeL_le r
  unfold shownL
  split
  · rw [esc_length, List.length_take]; omega
  · split
    · rw [List.length_take]; omega
    · rw [esc_length, List.length_take]; omega
theorem plain_length (l : List UInt8) : (plainL l).length ≤ 3 * l.length := by
  induction l using piece_ind with
  | h0 => simp [plain_nil]
  | h1 b r hs ih =>
    have := shown_length (b :: r) (by simp)
    rw [plain_step (b :: r) (by simp), List.length_append, hs] at *
    simp at *
    omega
  | h2 p r hp ih =>
    have hne : p ++ r ≠ [] := fun e => by
      have := List.append_eq_nil_iff.1 e
      have := hp.1; have := hp.2; simp_all
    have hz : sizeL (p ++ r) = p.length := by rw [sizeL_app p r hp.1, hp.2]
    have h3 := shown_length (p ++ r) hne
    have h4 := hp.1
    have h5 := hp.2
    rw [plain_step (p ++ r) hne, List.length_append, hz, show max 1 p.length = p.length by omega] at *
    rw [List.drop_left, List.length_append]
    omega
end Go.Proofs.Ytidacifgnaohjaa
