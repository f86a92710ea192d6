/-
  A row of bytes of the call's own whose block may bear a mark beyond its cells (what a conversion of a text leaves), and append onto it.
-/
import Derived.Test.YtemiphbblaikjaaDoorHex
import Derived.Lib.ConvBytes
import Derived.Maps.AppendAt
namespace Go.Proofs.YtemiphbblaikjaaDoor
open Go.RowKit

/-- No cell below n bears the mark. -/
def Clear (fr : Nat × Nat) (n : Nat) : Prop := ∀ i, i < n → ¬ (fr.1 ≤ i ∧ i < fr.2)
/-- Block g begins with these bytes, has room for cap, and may be written. -/
def OwnM (w : World) (g cap : Nat) (l : List UInt8) : Prop :=
  ∃ cur fr, w.heap[g]? = some (.cells cur 5 fr) ∧ Clear fr cur.size ∧ l.length ≤ cap ∧ cap ≤ maxLen ∧ cur.size = cap ∧ cur.toList.take l.length = byC l

section
variable {P : Program}
theorem run_store_mark (g o : Nat) (t : TypeId) (fr : Nat × Nat) : ∀ (vs : List Value) (i : Nat) (cur : Array Value) (w : World), w.heap[g]? = some (.cells cur t fr) → Clear fr cur.size → o + i + vs.length ≤ cur.size → (∀ v ∈ vs, v.oneCell' = true) →
    (storeCells ⟨g, o, none⟩ vs i).run P w = .ok () (w.setRow g (cur.toList.take (o + i) ++ vs ++ cur.toList.drop (o + i + vs.length)).toArray)
  | [], i, cur, w, hg, _, _, _ => by
    simp only [storeCells, List.append_nil, List.length_nil, Nat.add_zero, List.take_append_drop, Array.toArray_toList]
    rw [setRow_self w g cur t fr hg]
    rfl
  | v :: rest, i, cur, w, hg, hcl, hl, h1 => by
    have hi : o + i < cur.size := by simp at hl; omega
    have hcell : w.cell? ⟨g, o + i, none⟩ = some cur[o + i] := by simp [World.cell?, hg, hi]
    have hfro : w.frozen? ⟨g, o + i, none⟩ = false := by
      have := hcl (o + i) hi
      simp [World.frozen?, hg]
      omega
    have hadd : (⟨g, o, none⟩ : Addr).add i = ⟨g, o + i, none⟩ := by unfold Addr.add; split <;> simp_all
    have hst : (store ((⟨g, o, none⟩ : Addr).add i) v).run P w = .ok () (w.setRow g (cur.setIfInBounds (o + i) v)) := by
      rw [hadd, run_store P w _ v _ (h1 v (by simp)), hcell]
      simp [hfro, setCell_eq_setRow w g (o + i) cur t fr v hg]
    have ih := run_store_mark g o t fr rest (i + 1) (cur.setIfInBounds (o + i) v) (w.setRow g (cur.setIfInBounds (o + i) v)) (setRow_heap w g cur _ t _ hg) (by simpa using hcl) (by simp at hl ⊢; omega) (fun x hx => h1 x (by simp [hx]))
    simp only [storeCells, Sem.run_bind, hst, Result.andThen_ok, ih, setRow_setRow]
    congr 3
    have e := list_seg_step cur.toList (o + i) v rest (by simp at hl ⊢; omega)
    simpa [Array.toList_setIfInBounds, Nat.add_assoc] using e

theorem run_append_mark (w : World) (t ty : TypeId) (i : TypeInfo) (ht : P.underlying t = some (.slice 5)) (hi : P.info? 5 = some i) (hz : i.zero = some (.int .u8 0)) (hs1 : i.size = 1) (hb1 : i.bytes = 1)
    (g cap : Nat) (l m : List UInt8) (n k : Nat) (hn : l.length = n) (hk : m.length = k) (hown : OwnM w g cap l) (ad : Addr) (c : Nat) (hnews : ∀ j u, (byC m)[j]? = some u → w.cell? (ad.add j) = some u) (hsz : n + k ≤ 1099511627776) :
    ∃ g' cap' w', (Builtin.append_ #[t, t] ty #[.slice (some ⟨g, 0, none⟩) n cap, .slice (some ad) k c]).run P w = .ok (.slice (some ⟨g', 0, none⟩) (n + k) cap') w' ∧ OwnM w' g' cap' (l ++ m) ∧ w.grownBy w' (some g) ∧ (g' = g ∨ g' = w.heap.size) := by
  subst hn hk
  obtain ⟨cur, fr, hg, hcl, hlc, hcm, hcs, htk⟩ := hown
  have hl : (byC m).length = m.length * i.size := by rw [byC_length, hs1, Nat.mul_one]
  have hll : (l ++ m).length = l.length + m.length := List.length_append
  by_cases hroom : l.length + m.length ≤ cap
  · have hf := run_firstCells_some (P := P) w i.size m.length ad m.length c (byC m) hl hnews
    have hst := run_store_mark (P := P) g l.length 5 fr (byC m) 0 cur w hg hcl (by rw [byC_length, hcs]; exact hroom) (byC_one m)
    simp only [Nat.add_zero] at hst
    have hsize : (cur.toList.take l.length ++ byC m ++ cur.toList.drop (l.length + (byC m).length)).toArray.size = cur.size := by
      simp [byC_length]; omega
    refine ⟨g, cap, w.setRow g (cur.toList.take l.length ++ byC m ++ cur.toList.drop (l.length + (byC m).length)).toArray, ?_, ⟨_, fr, setRow_heap w g cur _ 5 fr hg, by rw [hsize]; exact hcl, by rw [hll]; exact hroom, hcm, by rw [hsize]; exact hcs, ?_⟩, ⟨rfl, rfl, rfl, by simp, fun j _ hj => setRow_other w g j _ (fun e => hj (by rw [e]))⟩, .inl rfl⟩
    · rw [hs1] at hf
      simp [Builtin.append_, run_underlying ht, sizeOf, typeInfo, hi, hs1, Builtin.lenOf, hroom, hf, Addr.add_lit, hst]
    · rw [htk, hll, byC_append]
      exact List.take_left' (by rw [List.length_append, byC_length, byC_length])
  · have holds : ∀ j u, (byC l)[j]? = some u → w.cell? ((⟨g, 0, none⟩ : Addr).add j) = some u := by
      intro j u hu
      rw [add_off, cell_of_row w g j cur 5 fr hg]
      rw [← htk, List.getElem?_take] at hu
      split at hu
      · simpa using hu
      · cases hu
    have hr := run_append_grow (P := P) w t ty 5 i _ ht hi hz ⟨g, 0, none⟩ l.length cap (byC l) (by rw [byC_length, hs1, Nat.mul_one]) holds ad m.length c (byC m) hl hnews (by omega) (by omega) (by rw [hb1]; exact growslice_fits (by omega) (by omega))
    refine ⟨_, _, _, hr, ⟨_, _, heap_alloc_new w.drew _, fun j _ h => by simp at h, ?_, grownCap_le_maxLen w _ _ _ (by unfold maxLen; omega), ?_, ?_⟩, ⟨rfl, rfl, rfl, by simp, fun j hj _ => Below.heap_alloc w.drew _ j hj⟩, .inr rfl⟩
    · rw [hll]; exact grownCap_ge w _ _ _
    · have h1 := grownCap_ge w (l.length + m.length) cap 5
      simp only [Array.size_append, List.size_toArray, size_zeroCells, byC_length]
      have : (Value.int IntKind.u8 0).cells.size = 1 := rfl
      rw [this]; omega
    · simp only [Array.toList_append]
      rw [hll, byC_append]
      exact List.take_left' (by rw [List.length_append, byC_length, byC_length])

theorem wpList_append_mark {ops : Array Oper} {rest : List Oper} {o : Oper} {a : Act} {w : World} {Q : Exit → Act → World → Prop} (hgd : o.guard = none) (s x : Operand) (t : TypeId)
    (ho : o.op = .call { callee := .builtin .append, args := #[s, x], argTypes := #[t, t] }) (i : TypeInfo) (ht : P.underlying t = some (.slice 5)) (hi : P.info? 5 = some i) (hz : i.zero = some (.int .u8 0)) (hs1 : i.size = 1) (hb1 : i.bytes = 1)
    (g cap : Nat) (l m : List UInt8) (n k : Nat) (hs : a.eval s = .slice (some ⟨g, 0, none⟩) n cap) (hn : l.length = n) (hk : m.length = k) (hown : OwnM w g cap l) (ad : Addr) (c : Nat) (hx : a.eval x = .slice (some ad) k c)
    (hnews : ∀ j u, (byC m)[j]? = some u → w.cell? (ad.add j) = some u) (hsz : n + k ≤ 1099511627776)
    (h : ∀ g' cap' w', OwnM w' g' cap' (l ++ m) → w.grownBy w' (some g) → (g' = g ∨ g' = w.heap.size) → wpList P ops Q rest (a.put o.dst (.slice (some ⟨g', 0, none⟩) (n + k) cap')) w') : wpList P ops Q (o :: rest) a w := by
  obtain ⟨g', cap', w', hr, h1, h2, h3⟩ := run_append_mark (P := P) w t o.type i ht hi hz hs1 hb1 g cap l m n k hn hk hown ad c hnews hsz
  refine wpList_plain hgd fun K hK => ?_
  unfold Oper.wp execOp
  simp only [ho, resolve, invoke, builtin, Sem.run_bind, Sem.run_pure, Result.andThen_ok, List.map_toArray, List.map_cons, List.map_nil, hs, hx, hr]
  exact hK _ _ (h g' cap' w' h1 h2 h3)
end

theorem OwnM.lt {w : World} {g cap : Nat} {l : List UInt8} (h : OwnM w g cap l) : g < w.heap.size := by
  obtain ⟨cur, fr, hg, _⟩ := h
  exact (Array.getElem?_eq_some_iff.1 hg).1
theorem OwnM.keep {w w' : World} {g cap : Nat} {l : List UInt8} (h : OwnM w g cap l) (hh : w'.heap[g]? = w.heap[g]?) : OwnM w' g cap l := by
  obtain ⟨cur, fr, hg, r⟩ := h
  exact ⟨cur, fr, hh.trans hg, r⟩
theorem OwnM.below {w w' : World} {g cap B : Nat} {l : List UInt8} (h : OwnM w g cap l) (hb : Below B w w') (hB : g < B) : OwnM w' g cap l := h.keep (hb.block g hB)
theorem OwnM.alloc {w : World} {g cap : Nat} {l : List UInt8} (h : OwnM w g cap l) (o : Obj) : OwnM (w.alloc o) g cap l := h.keep (Below.heap_alloc w o g h.lt)
theorem OwnM.cell {w : World} {g cap : Nat} {l : List UInt8} (h : OwnM w g cap l) {i : Nat} (hi : i < l.length) : w.cell? ⟨g, i, none⟩ = some (.int .u8 ((l.getD i 0).toNat : Int)) := by
  obtain ⟨cur, fr, hg, _, _, _, _, htk⟩ := h
  rw [cell_of_row w g i cur 5 fr hg]
  have := byC_at hi
  rw [← htk, List.getElem?_take, if_pos hi] at this
  simpa using this
/-- The row that a conversion of a text lays. -/
theorem ownM_text (w : World) (s : ByteArray) (hs : s.size ≤ 1099511627776) : OwnM (Lib.bytesWorld w 5 s) w.heap.size (grownCap w s.size 0 5) (bl s) := by
  refine ⟨_, _, Lib.bytesWorld_at_new w 5 s, fun i hi h => by simp at h; omega, by rw [bl_length]; exact grownCap_ge w _ _ _, grownCap_le_maxLen w _ _ _ (by unfold maxLen; omega), ?_, ?_⟩
  · have := grownCap_ge w s.size 0 5
    unfold Lib.bytesCells
    have hsz : s.data.size = s.size := rfl
    simp [hsz]; omega
  · unfold Lib.bytesCells
    rw [bl_length, byC_eq, bl_eq]
    simp only [Array.toList_append, Array.toList_map]
    exact List.take_left' (by rw [List.length_map, ← Lib.size_eq])
end Go.Proofs.YtemiphbblaikjaaDoor
