/-
  The contracts of name's Count and Right.
-/
import Derived.Test.YtidacifgnaohjaaFew
import Derived.Lib.OthersKept
namespace Go.Proofs.Ytidacifgnaohjaa
open Go.RowKit

theorem countL_told (r : List UInt8) (h : sizeL r ≠ 0) : countL r = cplus 1 (countL (r.drop (widthL r))) := by
  rw [countL_step r h, widthL, show max 1 (sizeL r) = sizeL r by omega]

set_option maxRecDepth 100000 in
set_option maxHeartbeats 1000000 in
theorem count_any (s : ByteArray) (w : World) (hs : s.size ≤ 9223372036854775807) :
    Calls Try.prog 12 #[.string s] w fun e w' => e = .returned (.int .i64 (countL (bl s))) ∧ Below w.heap.size w w' := by
  have H0 : Hid (countL (bl s) = cplus 0 (countL ((bl s).drop 0))) := Lib.hid (by
    have := countL_ge (bl s)
    unfold cplus
    rw [List.drop_zero]
    split <;> omega)
  go_enter Try.func12, Try.ntmps12
  go_wp2
  go_loopw [3] (fun n wr => ∃ j k : Nat, j ≤ k ∧ k ≤ s.size ∧ n = .int .i64 (j : Int) ∧ wr.heap[w.heap.size]? = some (.stringIter s k) ∧ Below w.heap.size w wr ∧ countL (bl s) = cplus j (countL ((bl s).drop k))) (fun _ wr => s.size - wr.iterPos w.heap.size)
  case atStart => exact ⟨0, 0, by omega, by omega, rfl, World.iter_heap w s 0, (Below.refl _ _).alloc (Nat.le_refl _) _, H0.out⟩
  case round =>
    obtain ⟨j, k, hj, hk, rfl, hit, hb, hc⟩ := hrel
    have Hc := Lib.hid hc
    have Hb := Lib.hid hb
    have hszw : w.heap.size < wr.heap.size := (Array.getElem?_eq_some_iff.1 hit).1
    clear hc hb
    by_cases hlt : k < s.size
    · have hnx : ∀ ty, (Instr.next (.pointer (some ⟨w.heap.size, 0, none⟩)) true ty).run Try.prog wr = _ := fun ty => Lib.run_next_any_at wr w.heap.size s k ty hit hlt
      have Hne : Hid ((bl s).drop k ≠ []) := Lib.hid (fun e => by have := congrArg List.length e; rw [List.length_drop, bl_length] at this; simp at this; omega)
      have hw1 := widthL_pos ((bl s).drop k)
      have hw2 : widthL ((bl s).drop k) ≤ s.size - k := by have := widthL_le _ Hne.out; rw [List.length_drop, bl_length] at this; exact this
      have Hstep := Lib.hid (countL_told ((bl s).drop k))
      have Hzero := Lib.hid (countL_zero ((bl s).drop k) Hne.out)
      have htl := told_lt ((bl s).drop k)
      have Hbr := Lib.hid (broken_any (s.extract k s.size))
      rw [bl_rest] at Hbr
      simp only [decode_told s k hlt] at hnx
      rw [List.drop_drop] at Hstep
      generalize widthL ((bl s).drop k) = wd at *
      generalize toldL ((bl s).drop k) = c at *
      have Hit2 := Lib.hid (Lib.iterAt_heap wr w.heap.size s k (k + wd) hit)
      have Hb2 := Lib.hid (Lib.below_iterAt Hb.out (k := w.heap.size) (Nat.le_refl _) s (k + wd))
      by_cases hz : sizeL ((bl s).drop k) = 0
      · have Hv : Hid (countL (bl s) = -1) := Lib.hid (by rw [Hc.out, Hzero.out hz]; rfl)
        rw [decide_eq_true hz] at Hbr
        clear hz Hstep Hzero
        go_wp2_with (go_at_call 18; refine (Hbr.out _).mono ?_; rintro e w' ⟨rfl, rfl⟩)
        go_ret
        exact ⟨by rw [Hv.out]; rfl, Hb2.out⟩
      · have Hst : Hid (countL (bl s) = cplus (j + 1) (countL ((bl s).drop (k + wd)))) := Lib.hid (by
          rw [Hc.out, Hstep.out hz, cplus_more])
        rw [decide_eq_false hz] at Hbr
        clear hz Hstep Hzero
        go_wp2_with (go_at_call 18; refine (Hbr.out _).mono ?_; rintro e w' ⟨rfl, rfl⟩)
        go_roundw
        case rel => exact ⟨j + 1, k + wd, by omega, by omega, by go_num, Hit2.out, Hb2.out, Hst.out⟩
        case measure =>
          simp only [World.iterPos, Hit2.out, hit]
          omega
    · have hnx : ∀ ty, (Instr.next (.pointer (some ⟨w.heap.size, 0, none⟩)) true ty).run Try.prog wr = _ := fun ty => Lib.run_next_end_at wr w.heap.size s k ty hit hlt
      have Hv : Hid (countL (bl s) = j) := Lib.hid (by
        rw [Hc.out, List.drop_eq_nil_of_le (by rw [bl_length]; omega), countL_nil]; unfold cplus; simp)
      go_wp2
      go_ret
      exact ⟨by rw [Hv.out]; rfl, Hb.out⟩
end Go.Proofs.Ytidacifgnaohjaa
