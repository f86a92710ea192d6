/-
  slices.Backward over names: the contract of its function value.
-/
import Derived.Test.YtmgbmphheagdmaaGreatDoorMA
import Derived.RangeFuncNested
import Derived.RangeFuncBound
import Derived.RangeFuncCalls
import Derived.RangeFuncLeaves
import Derived.RangeFuncBox
import Derived.Shelf.Abstract
import Derived.Shelf.RegionOpen
import Derived.OwnWalkIn
import Derived.TacticsInMore
import Derived.LoopNIn
import Derived.LoopIn
namespace Go.Proofs.YtmgbmphheagdmaaGreatDoor
open Go.RowKit Go.Shelf

attribute [local go_sem] Oper.semAt_some

/-- The name at a place. -/
def nameAt (zs : List (List UInt8)) (j : Nat) : List UInt8 := zs[j]?.getD []
/-- Places, the last one first. -/
def backF (n : Nat) : List (Fin n) := (List.finRange n).reverse
theorem backF_len (n : Nat) : (backF n).length = n := by unfold backF; simp
theorem backF_at {n k : Nat} (hk : k < n) : (backF n)[k]? = some ⟨n - 1 - k, by omega⟩ := by
  rw [List.getElem?_eq_getElem (by rw [backF_len]; exact hk)]
  congr 1
  apply Fin.ext
  unfold backF
  rw [List.getElem_reverse, List.getElem_finRange]
  simp
theorem backF_take {n k : Nat} (hk : k < n) : (backF n).take (k + 1) = (backF n).take k ++ [⟨n - 1 - k, by omega⟩] := by
  rw [List.take_add_one, backF_at hk]
  rfl
theorem backF_mem {n : Nat} (i : Fin n) : i ∈ backF n := by unfold backF; simp
theorem backF_mem_take {n k : Nat} {i : Fin n} (hk : k ≤ n) (h : n - k ≤ i.1) : i ∈ (backF n).take k := by
  have hi := i.2
  have hj : n - 1 - i.1 < k := by omega
  have h1 := backF_at (n := n) (k := n - 1 - i.1) (by omega)
  rw [show (⟨n - 1 - (n - 1 - i.1), by omega⟩ : Fin n) = i from Fin.ext (by simp; omega)] at h1
  refine List.mem_iff_getElem?.2 ⟨n - 1 - i.1, ?_⟩
  rw [List.getElem?_take, if_pos hj, h1]

set_option maxRecDepth 100000 in
set_option maxHeartbeats 2000000 in
/-- The function value of slices.Backward, for every loop's body that keeps what lay below n₀. -/
theorem back1_in (F : Fence) (n : Nat) (h77 : F.fn 77) (hro : F.round = none) (hn : 1 ≤ n) (l Bs n₀ g len cap : Nat) (zs : List (List UInt8)) (hz : zs.length = len) (hreach : len ≤ 1000000000) (hb : g < n₀) (J Jx : List (Fin len) → World → Prop)
    (hY : ∀ pre x W, J pre W → pre.length < len → YieldAt F (n - 1) Tryz.prog l #[.int .i64 (x.1 : Int), .string (bs (nameAt zs x.1))] W fun e W' =>
      (e = .returned (.bool true) ∧ J (pre ++ [x]) W' ∧ Below n₀ W W') ∨ (e = .returned (.bool false) ∧ Jx (pre ++ [x]) W'))
    (W : World) (hBs : W.cell? ⟨Bs, 0, none⟩ = some (.slice (some ⟨g, 0, none⟩) len cap)) (hBn : Bs < n₀) (hc : ∀ j, j < len → W.cell? ⟨g, j, none⟩ = some (.string (bs (nameAt zs j)))) (h0 : J [] W) :
    CallsIn F n Tryz.prog 77 #[.func (.yield l) #[] #[], .pointer (some ⟨Bs, 0, none⟩)] W fun e W' => (∃ v, e = .returned v) ∧
      ((∃ ys, ys = backF len ∧ J ys W') ∨ (∃ pre, (∃ k, k ≤ len ∧ pre = (backF len).take k) ∧ Jx pre W')) := by
  have Hc := Lib.hid hc
  have HY := Lib.hid hY
  have Hb := Lib.hid (And.intro hb hBn)
  clear hc hY
  refine callsIn_of_wp Tryz.func77 rfl h77 ?_ hro
  simp only [Tryz.ntmps77, List.size_toArray, List.length_cons, List.length_nil, Nat.reduceAdd, Nat.reduceSub, Array.replicate_succ, Array.replicate_zero, List.push_toArray, List.append_toArray, List.nil_append, List.cons_append]
  gi_wp2
  gi_loopw [3] (fun i wr => ∃ k : Nat, k ≤ len ∧ i = .int .i64 ((len : Int) - 1 - k) ∧ J ((backF len).take k) wr ∧ Below n₀ W wr)
    (fun i _ => (intOf i + 1).toNat)
  case atStart => exact ⟨0, Nat.zero_le _, by simp, by simpa using h0, Below.refl _ _⟩
  case round =>
    obtain ⟨k, hk, rfl, hJs, hnx⟩ := hrel
    have Hnx := Lib.hid hnx
    clear hnx
    by_cases hlt : k < len
    · have hjlt : len - 1 - k < len := by omega
      obtain ⟨fn, tmps, assign, body, hy, hR⟩ := HY.out _ ⟨len - 1 - k, hjlt⟩ wr hJs (by rw [List.length_take, backF_len]; omega)
      obtain ⟨j, hj⟩ : ∃ j, j = len - 1 - k := ⟨_, rfl⟩
      have hji : (len : Int) - 1 - (k : Int) = (j : Int) := by omega
      have hj0 : j < len := by omega
      have hBs' : wr.cell? ⟨Bs, 0, none⟩ = some (.slice (some ⟨g, 0, none⟩) len cap) := (Hnx.out.cell (p := ⟨Bs, 0, none⟩) Hb.out.2).trans hBs
      have hcx := (Hnx.out.cell (p := ⟨g, j, none⟩) Hb.out.1).trans (Hc.out j hj0)
      have Htk : Hid ((backF len).take (k + 1) = (backF len).take k ++ [⟨len - 1 - k, hjlt⟩]) := Lib.hid (backF_take hlt)
      dsimp only at hy
      rw [← hj] at hy
      rw [hji]
      have hjw : (j : Int) - 1 = (len : Int) - 1 - ((k + 1 : Nat) : Int) := by omega
      have Hjw := Lib.hid hjw
      have Hj := Lib.hid hj
      clear hjw hji hj
      generalize bs (nameAt zs j) = t at *
      gi_wp2
      refine hR.mono ?_
      rintro e W3 (⟨rfl, hJ3, hk3⟩ | ⟨rfl, hJx3⟩)
      · gi_wp2
        go_roundw
        case rel => exact ⟨k + 1, by omega, by rw [← Hjw.out], by rw [Htk.out]; exact hJ3, Hnx.out.trans hk3⟩
        case measure => simp [intOf]
      · gi_wp2
        refine bodyPost_ret (results_none rfl _ _ _) rfl ?_
        exact ⟨⟨_, rfl⟩, .inr ⟨_, ⟨k + 1, by omega, Htk.out.symm⟩, hJx3⟩⟩
    · obtain rfl : k = len := by omega
      have hall : (backF k).take k = backF k := List.take_of_length_le (by rw [backF_len]; exact Nat.le_refl _)
      rw [hall] at hJs
      have hneg : ¬ (0 : Int) ≤ (k : Int) - 1 - (k : Int) := by omega
      gi_wp2
      go_end0
      exact ⟨⟨_, rfl⟩, .inl hJs⟩

set_option maxRecDepth 100000 in
set_option maxHeartbeats 1000000 in
/-- .. at the nil slice: no round. -/
theorem back1_nil_in (F : Fence) (n : Nat) (h77 : F.fn 77) (hro : F.round = none) (l Bs : Nat) {α : Type} (J : List α → World → Prop) (W : World) (hBs : W.cell? ⟨Bs, 0, none⟩ = some (.slice none 0 0)) (h0 : J [] W) :
    CallsIn F n Tryz.prog 77 #[.func (.yield l) #[] #[], .pointer (some ⟨Bs, 0, none⟩)] W fun e W' => (∃ v, e = .returned v) ∧ J [] W' := by
  refine callsIn_of_wp Tryz.func77 rfl h77 ?_ hro
  simp only [Tryz.ntmps77, List.size_toArray, List.length_cons, List.length_nil, Nat.reduceAdd, Nat.reduceSub, Array.replicate_succ, Array.replicate_zero, List.push_toArray, List.append_toArray, List.nil_append, List.cons_append]
  gi_wp2
  gi_loopw [3] (fun i wr => i = .int .i64 (-1) ∧ J [] wr) (fun _ _ => 0)
  case atStart => exact ⟨rfl, h0⟩
  case round =>
    obtain ⟨rfl, hJs⟩ := hrel
    gi_wp2
    go_end0
    exact ⟨⟨_, rfl⟩, hJs⟩

set_option maxHeartbeats 1000000 in
set_option maxRecDepth 100000 in
/-- slices.Backward: the slice is boxed; the function value captures the box. -/
theorem back_in (F : Fence) (n : Nat) (h55 : F.fn 55) (hro : F.round = none) (a : Option Addr) (len cap : Nat) (w : World) :
    CallsIn F n Tryz.prog 55 #[.slice a len cap] w fun e w' => e = .returned (.func (.func 77) #[] #[.pointer (some ⟨w.heap.size, 0, none⟩)]) ∧ w' = w.alloc (.cells #[.slice a len cap] 55) := by
  refine callsIn_of_wp Tryz.func55 rfl h55 ?_ hro
  simp only [Tryz.ntmps55, List.size_toArray, List.length_cons, List.length_nil, Nat.reduceAdd, Nat.reduceSub, Array.replicate_succ, Array.replicate_zero, List.push_toArray, List.append_toArray, List.nil_append, List.cons_append]
  gi_wp2
  go_ret
  exact ⟨rfl, rfl⟩

/-- The places and names, the last one first: all; or the first k of them. -/
theorem back_stops (F : Fence) (n : Nat) (h77 : F.fn 77) (hro : F.round = none) (hn : 1 ≤ n) (Bs n₀ : Nat) (A : Option Addr) (len cap : Nat) (zs : List (List UInt8)) (hz : zs.length = len) (hreach : len ≤ 1000000000) (w : World) (hBs : Bs < n₀) (hn₀ : n₀ ≤ w.heap.size)
    (hc : w.cell? ⟨Bs, 0, none⟩ = some (.slice A len cap)) (hA : (A = none ∧ len = 0 ∧ cap = 0) ∨ ∃ g, A = some ⟨g, 0, none⟩ ∧ g < n₀ ∧ ∀ j, j < len → w.cell? ⟨g, j, none⟩ = some (.string (bs (nameAt zs j)))) :
    SeqStopsK F n Tryz.prog 77 #[.pointer (some ⟨Bs, 0, none⟩)] (fun x : Fin len => #[Value.int .i64 (x.1 : Int), Value.string (bs (nameAt zs x.1))]) (Below n₀) (fun ys => ys = backF len)
      (fun pre => ∃ k, k ≤ len ∧ pre = (backF len).take k) len w := fun l J Jx W hW _ _ hY h0 => by
  have hW' := hW.mono hn₀
  have hc' := (hW'.cell (p := ⟨Bs, 0, none⟩) hBs).trans hc
  rcases hA with ⟨rfl, rfl, rfl⟩ | ⟨g, rfl, hg, hcs⟩
  · exact (back1_nil_in F n h77 hro l Bs J W hc' h0).mono fun e W' ⟨he, hj⟩ => ⟨he, .inl ⟨_, rfl, hj⟩⟩
  · exact back1_in F n h77 hro hn l Bs n₀ g len cap zs hz hreach hg J Jx hY W hc' hBs (fun j hj => (hW'.cell (p := ⟨g, j, none⟩) hg).trans (hcs j hj)) h0
end Go.Proofs.YtmgbmphheagdmaaGreatDoor
