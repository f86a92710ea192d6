/-
  What the frames of the laws over texts hand on of a slice that came in.
-/
import Derived.Test.YtemiphbblaikjaaDoorLay
import Derived.Test.YtemiphbblaikjaaDoorJoin
import Derived.SliceStrings
namespace Go.Proofs.YtemiphbblaikjaaDoor
open Go.RowKit
/-- A slice of texts as it came in: nil, or a row of cells that bear the texts 'ss'. -/
def IsTexts (w : World) (a : Option Addr) (len cap : Nat) (ss : List ByteArray) : Prop :=
  (a = none ∧ len = 0 ∧ cap = 0 ∧ ss = []) ∨
  ∃ x, a = some x ∧ len ≤ cap ∧ cap ≤ maxLen ∧ ss.length = cap ∧ (∀ i, i < ss.length → w.cell? (x.add i) = some (.string (ss.getD i ByteArray.empty))) ∧ ∀ s ∈ ss, s.size ≤ maxLen
theorem texts_open {w : World} {x : Addr} {zs : List ByteArray}
    (hcell : ∀ i, i < zs.length → w.cell? (x.add i) = some (.string (zs.getD i ByteArray.empty))) (h0 : 0 < zs.length) :
    ∃ b off, x = ⟨b, off, none⟩ ∧ b < w.heap.size ∧ ∀ i, i < zs.length → w.cell? ⟨b, off + i, none⟩ = some (.string (zs.getD i ByteArray.empty)) := by
  obtain ⟨b, off, spot⟩ := x
  have hc := hcell 0 h0
  have hspot : spot = none := by simpa [Addr.add] using World.cell?_spot hc
  subst hspot
  have hc' : w.cell? ⟨b, off, none⟩ = some (.string (zs.getD 0 ByteArray.empty)) := by simpa [Addr.add] using hc
  refine ⟨b, off, rfl, World.block_lt_of_cell? w _ hc', fun i hi => ?_⟩
  have := hcell i hi
  by_cases h : i = 0
  · subst h; simpa [Addr.add] using this
  · simpa [Addr.add, h] using this
/-- The row of texts, as its first 'len' cells read. -/
theorem IsTexts.row {w : World} {a : Option Addr} {len cap : Nat} {ss : List ByteArray} (h : IsTexts w a len cap ss) : SRow w a len (ss.take len) ∧ len ≤ maxLen ∧ ∀ s ∈ ss.take len, s.size ≤ maxLen := by
  rcases h with ⟨rfl, rfl, rfl, rfl⟩ | ⟨x, rfl, hl, hm, hz, hcell, hs⟩
  · exact ⟨⟨rfl, fun i hi => by omega⟩, by unfold maxLen; omega, by simp⟩
  · refine ⟨⟨by simp; omega, fun i hi => ?_⟩, by omega, fun s h => hs s (List.mem_of_mem_take h)⟩
    obtain ⟨b, off, rfl, hb, hc⟩ := texts_open hcell (by omega)
    refine ⟨b, off, rfl, hb, ?_⟩
    rw [hc i (by omega), List.getD_eq_getElem?_getD, List.getD_eq_getElem?_getD, List.getElem?_take_of_lt hi]
end Go.Proofs.YtemiphbblaikjaaDoor
