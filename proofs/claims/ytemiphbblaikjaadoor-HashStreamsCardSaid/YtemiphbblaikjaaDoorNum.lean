/-
  The contracts of exchequerref02.number and exchequerref02.constants.
-/
import Derived.Test.YtemiphbblaikjaaDoorMark
import Derived.Test.YtemiphbblaikjaaDoorLawK
namespace Go.Proofs.YtemiphbblaikjaaDoor
open Go.RowKit

/-- The last j bytes of a number, noughts ahead. -/
def numT (n size j : Nat) : List UInt8 := List.replicate (size - j) 0 ++ (numL n size).drop (size - j)
theorem numT_length (n size j : Nat) (h : j ≤ size) : (numT n size j).length = size := by
  unfold numT; rw [List.length_append, List.length_replicate, List.length_drop, numL_length]; omega
theorem numT_end (n size : Nat) : numT n size size = numL n size := by simp [numT]
theorem numT_zero (n size : Nat) : numT n size 0 = List.replicate size 0 := by
  unfold numT; rw [Nat.sub_zero, List.drop_of_length_le (by rw [numL_length]; omega), List.append_nil]
theorem numT_set (n size j : Nat) (h : j < size) : (byC (numT n size j)).set (size - 1 - j) (.int .u8 (((n / 256 ^ j : Nat) : Int) % 256)) = byC (numT n size (j + 1)) := by
  have hd : (numL n size).drop (size - (j + 1)) = UInt8.ofNat (n / 256 ^ j) :: (numL n size).drop (size - j) := by
    rw [List.drop_eq_getElem_cons (show size - (j + 1) < (numL n size).length by rw [numL_length]; omega), show size - (j + 1) + 1 = size - j by omega]
    congr 1
    unfold numL
    simp only [List.getElem_map, List.getElem_range]
    rw [show size - 1 - (size - (j + 1)) = j by omega]
  unfold numT
  rw [hd, show size - j = size - 1 - j + 1 by omega, List.replicate_succ', show size - (j + 1) = size - 1 - j by omega, byC_append, byC_append, byC_append]
  rw [List.append_assoc, List.set_append_right _ _ (by rw [byC_length, List.length_replicate]; omega), byC_length, List.length_replicate, Nat.sub_self]
  simp [byC_eq]

set_option maxRecDepth 100000 in
set_option maxHeartbeats 1000000 in
theorem number_any (n size : Nat) (w : World) (h0 : 0 < size) (h8 : size ≤ 8) (hn : n < 18446744073709551616) :
    Calls Tryd.prog 24 #[.int .u64 n, .int .i64 size] w fun e w' => e = .returned (.slice (some ⟨w.heap.size, 0, none⟩) size size) ∧ w'.ownsRow w.heap.size 5 1 (.slice (some ⟨w.heap.size, 0, none⟩) size size) size (byC (numL n size)) ∧ Below w.heap.size w w' := by
  obtain ⟨i0, hi0, hz0, hz1, hz2⟩ := info_parts info5
  have hm2 : Hid (i0.bytes * size ≤ 281474976710656) := Lib.hid (by rw [hz2]; omega)
  have hm3 : Hid (size ≤ maxLen) := Lib.hid (by unfold maxLen; omega)
  go_enter Tryd.func24, Tryd.ntmps24
  go_wp2_with (at_make; go_loud (refine wpList_make_full _ rfl _ _ 37 rfl w.heap.size 5 i0 (.int .u8 0) 1 Tryd.underlying37 hi0 hz0 hz1 .i64 .i64 (size : Int) (size : Int) size rfl rfl rfl rfl hm2.out hm3.out (Nat.le_refl _) ?_); intro w1 hown hgrow)
  have Hown : Hid (w1.ownsRow w.heap.size 5 1 (.slice (some ⟨w.heap.size, 0, none⟩) size size) size (byC (numT n size 0))) := Lib.hid (by rw [numT_zero, ← made_zeros]; exact hown)
  have Hb1 : Hid (Below w.heap.size w w1) := Lib.hid ((Below.refl _ _).grown hgrow (Nat.le_refl _) (by intro k hk; cases hk))
  clear hown hgrow
  go_wp2
  go_loopw [0, 6] (fun nv i wr => ∃ j : Nat, j ≤ size ∧ i = .int .i64 ((size : Int) - 1 - j) ∧ nv = .int .u64 ((n / 256 ^ j : Nat) : Int) ∧ wr.ownsRow w.heap.size 5 1 (.slice (some ⟨w.heap.size, 0, none⟩) size size) size (byC (numT n size j)) ∧ Below w.heap.size w wr) (fun _ i _ => (intOf i + 1).toNat)
  case atStart => exact ⟨0, by omega, by simp, by simp, Hown.out, Hb1.out⟩
  case round =>
    clear Hown Hb1
    obtain ⟨j, hj, rfl, rfl, hown, hb⟩ := hrel
    have Hk := Lib.hid hown
    have Hb := Lib.hid hb
    clear hown hb
    have hq : n / 256 ^ j < 18446744073709551616 := Nat.lt_of_le_of_lt (Nat.div_le_self _ _) hn
    have hnext : n / 256 ^ (j + 1) = n / 256 ^ j / 256 := by rw [Nat.pow_succ, Nat.div_div_eq_div_mul]
    by_cases hlt : j < size
    · have Hset := Lib.hid (numT_set n size j hlt)
      have hcell0 := Hk.out.cellAt (size - 1 - j) (by omega)
      rw [byC_at (by rw [numT_length _ _ _ hj]; omega)] at hcell0
      have hfr := Hk.out.frozenAt (size - 1 - j)
      generalize n / 256 ^ j = q at *
      have Hnext := Lib.hid hnext
      clear hnext
      have hidx : ((size : Int) - 1 - j).toNat = size - 1 - j := by omega
      have hge : (0 : Int) ≤ (size : Int) - 1 - j := by omega
      go_wp2
      go_roundw
      case rel =>
        refine ⟨j + 1, by omega, by congr 1; omega, by rw [Hnext.out]; rfl, ?_, Hb.out.setCell (Nat.le_refl _) _⟩
        rw [← Hset.out]
        exact (Hk.out.stored _ _).1
      case measure => simp [intOf]; omega
    · have hend : byC (numT n size j) = byC (numL n size) := by
        have h : j = size := by omega
        rw [h, numT_end]
      have Hend : Hid (wr.ownsRow w.heap.size 5 1 (.slice (some ⟨w.heap.size, 0, none⟩) size size) size (byC (numL n size))) := Lib.hid (by rw [← hend]; exact Hk.out)
      clear hend hnext
      have hlt0 : ¬ (0 : Int) ≤ (size : Int) - 1 - j := by omega
      go_wp2
      go_ret
      exact ⟨rfl, Hend.out, Hb.out⟩

/-- The words of the rounds. -/
def kks : List (BitVec 32) := (List.range 64).map kk
theorem kks_eq : woC kks = kkN.map fun n => Value.int .u32 (Int.ofNat n) := by
  rw [woC_eq]
  have h : kks = kkN.map fun n => BitVec.ofNat 32 n := by decide +kernel
  rw [h, List.map_map]
  apply List.map_congr_left
  intro n hn
  have hall : kkN.all (fun n => decide (n < 4294967296)) = true := by decide +kernel
  have := List.all_eq_true.1 hall n hn
  simp only [Function.comp]
  rw [wI_ofNat n (by simpa using this)]; rfl
set_option maxRecDepth 100000 in
set_option maxHeartbeats 1000000 in
theorem consts_any (w : World) : Calls Tryd.prog 25 #[] w fun e w' => e = .returned (.slice (some ⟨w.heap.size, 0, none⟩) 64 64) ∧ Holds w' w.heap.size 41 (woC kks) ∧ w'.heap.size = w.heap.size + 1 ∧ Below w.heap.size w w' := by
  have HK := Lib.hid kks_eq
  go_enter Tryd.func25, Tryd.ntmps25
  go_wp2
  go_ret
  refine ⟨rfl, ?_, by simp, (Below.refl _ _).alloc (Nat.le_refl _) _⟩
  rw [HK.out]
  exact Holds.new w 41 _
end Go.Proofs.YtemiphbblaikjaaDoor
