/-
  Strings as lists of bytes; a row of bytes made a string; a text copied into a row.
-/
import Derived.Test.YtbgfkjafablfiaaMem
import Derived.Lib.BufferWrite
import Derived.Laws.IdiomStrings
namespace Go.Proofs.Ytbgfkjafablfiaa
open Go.RowKit

@[irreducible] def bs (l : List UInt8) : ByteArray := ⟨l.toArray⟩
@[irreducible] def bl (s : ByteArray) : List UInt8 := s.data.toList
theorem bl_eq (s : ByteArray) : bl s = s.data.toList := by unfold bl; rfl
theorem bs_eq (l : List UInt8) : bs l = ⟨l.toArray⟩ := by unfold bs; rfl
theorem bl_bs (l : List UInt8) : bl (bs l) = l := by rw [bl_eq, bs_eq]
theorem bs_bl (s : ByteArray) : bs (bl s) = s := by rw [bl_eq, bs_eq]
theorem bl_length (s : ByteArray) : (bl s).length = s.size := by rw [bl_eq, ← Lib.size_eq]
theorem bs_size (l : List UInt8) : (bs l).size = l.length := by rw [← bl_length, bl_bs]
theorem bl_toList (s : ByteArray) : s.toList = bl s := by rw [bl_eq, ByteArray.toList_eq]
theorem bs_toList (l : List UInt8) : (bs l).toList = l := by rw [bl_toList, bl_bs]
theorem bl_get (s : ByteArray) (k : Nat) (h : k < s.size) : s[k] = (bl s).getD k 0 := by
  rw [List.getD_eq_getElem?_getD, List.getElem?_eq_getElem (by rw [bl_length]; exact h)]
  simp only [bl_eq, Option.getD_some]; rfl
theorem bl_append (s t : ByteArray) : bl (s ++ t) = bl s ++ bl t := by simp [bl_eq]
theorem bs_append (l m : List UInt8) : bs l ++ bs m = bs (l ++ m) := by
  rw [← bs_bl (bs l ++ bs m), bl_append, bl_bs, bl_bs]
theorem bl_extract (s : ByteArray) (a b : Nat) : bl (s.extract a b) = ((bl s).drop a).take (b - a) := by rw [bl_eq, Lib.extract_data, bl_eq]
theorem bs_lit (s : ByteArray) (l : List UInt8) (h : bl s = l) : s = bs l := by rw [← h, bs_bl]

theorem add_off (g i : Nat) : (⟨g, 0, none⟩ : Addr).add i = ⟨g, i, none⟩ := by unfold Addr.add; split <;> simp_all
theorem conv_row {w : World} {g : Nat} {t : TypeId} {l : List UInt8} {rest : List Value} (h : Holds w g t (byC l ++ rest)) (n cap : Nat) (hn : l.length = n) :
    (convert 49 9 (.slice (some ⟨g, 0, none⟩) n cap)).run Try.prog w = .ok (.string (bs l)) w := by
  subst hn
  rw [bs_eq]
  refine run_convert_bytes_back w 49 9 5 ⟨g, 0, none⟩ cap l Try.underlying49 Try.underlying5 Try.underlying9 fun j hj => ?_
  rw [add_off]
  refine Holds.cell h ?_
  rw [List.getElem?_append_left (by rw [byC_length]; exact hj), byC_at hj, List.getD_eq_getElem?_getD, List.getElem?_eq_getElem hj]; rfl

theorem byC_cells (l : List UInt8) : Lib.byteCells l = byC l := by rw [byC_eq]; rfl
theorem byC_take (l : List UInt8) (n : Nat) : (byC l).take n = byC (l.take n) := by rw [byC_eq, byC_eq, List.map_take]
theorem byC_drop (l : List UInt8) (n : Nat) : (byC l).drop n = byC (l.drop n) := by rw [byC_eq, byC_eq, List.map_drop]
theorem byC_one (l : List UInt8) : ∀ v ∈ byC l, v.oneCell' = true := by rw [← byC_cells]; exact Lib.byteCells_one l

/-- copy of a text into a row: as many bytes as there is room for. -/
theorem run_copy_text {P : Program} (w : World) (dT sT ty elem : TypeId) (g o dLen dCap n : Nat) (s : ByteArray) (cur : List Value) (t : TypeId)
    (hu : P.underlying dT = some (.slice elem)) (hs : (P.info? elem).map (·.size) = some 1) (hg : Holds w g t cur) (hn : n = Nat.min s.size dLen) (hfit : o + n ≤ cur.length) :
    (Builtin.copy_ #[dT, sT] ty #[.slice (some ⟨g, o, none⟩) dLen dCap, .string s]).run P w =
      .ok (goInt n) (w.setRow g (splice cur o (byC ((bl s).take n))).toArray) := by
  have hle : n ≤ s.size := by rw [hn]; exact Nat.min_le_left _ _
  have hlen : (byC ((bl s).take n)).length = n := by rw [byC_length, List.length_take, bl_length]; omega
  have hst := run_storeCells_at P g o t (byC ((bl s).take n)) 0 cur.toArray w hg (by rw [hlen]; simpa using hfit) (byC_one _)
  have htk : List.take n (List.map (fun b : UInt8 => Value.int IntKind.u8 (b.toNat : Int)) s.data.toList) = byC ((bl s).take n) := by
    rw [← byC_take, byC_eq, bl_eq]
  rw [hlen] at hst
  simp only [Nat.add_zero] at hst
  cases hq : P.info? elem with
  | none => simp [hq] at hs
  | some i =>
    simp [Builtin.copy_, run_underlying hu, Builtin.lenOf, Builtin.firstCells, sizeOf, typeInfo, hq, ← hn]
    rw [htk, hst]
    simp [Result.andThen, splice, hlen]
end Go.Proofs.Ytbgfkjafablfiaa
