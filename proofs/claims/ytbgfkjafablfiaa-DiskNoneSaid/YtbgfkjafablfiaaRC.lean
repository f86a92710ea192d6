/-
  The contract of name's Right.
-/
import Derived.Test.YtbgfkjafablfiaaRB
namespace Go.Proofs.Ytbgfkjafablfiaa
open Go.RowKit

theorem restR_full (j : Nat) (r : List UInt8) (h : r ≠ []) (hj : 24 ≤ j) : restR j r = false := by
  unfold restR
  rw [decide_eq_false (by rw [pieces_told r h, List.length_cons]; omega), Bool.and_false]
theorem nameP_take (r : List UInt8) (h : sizeL r ≠ 0) : nameP (r.take (sizeL r)) = nameN (toldL r) := by
  have hw : Whole (r.take (sizeL r)) := ⟨by rw [sizeL_take r (by omega)]; omega, by rw [sizeL_take r (by omega), List.length_take]; have := sizeL_le r; omega⟩
  rw [nameP_code _ hw, codeL_take r h]
  unfold nameN toldL
  rw [if_neg h]
theorem restR_no (j : Nat) (r : List UInt8) (h : r ≠ []) (hn : nameN (toldL r) = false) : restR j r = false := by
  by_cases hs : sizeL r = 0
  · exact restR_zero j r h hs
  · exact restR_bad j r hs (by rw [nameP_take r hs, hn])
theorem told_45 (r : List UInt8) (h : toldL r = 45) : byteN r 0 = 45 := by
  unfold toldL at h
  by_cases hs : sizeL r = 0
  · rw [if_pos hs] at h; omega
  · rw [if_neg hs] at h
    have h4 := sizeL_le4 r
    have : sizeL r = 1 ∨ sizeL r = 2 ∨ sizeL r = 3 ∨ sizeL r = 4 := by omega
    rcases this with g | g | g | g
    · have := codeL_one g; omega
    · have := codeL_two g; omega
    · have := codeL_three g; omega
    · have := codeL_four g; omega
theorem byte_45 (r : List UInt8) (h : byteN r 0 = 45) (h0 : sizeL r ≠ 0) : toldL r = 45 := by
  unfold toldL
  rw [if_neg h0]
  rcases sizeL_spec r with ⟨g, _⟩ | ⟨g, c⟩ | ⟨g, c⟩ | ⟨g, c⟩ | ⟨g, _⟩
  · have := codeL_one g; omega
  · unfold Two at c; omega
  · unfold Three at c; omega
  · unfold Four at c; omega
  · omega
theorem restR_next (j : Nat) (r : List UInt8) (h0 : sizeL r ≠ 0) (hn : nameN (toldL r) = true) (hf : j = 0 → toldL r ≠ 45) : restR j r = restR (j + 1) (r.drop (widthL r)) := by
  rw [restR_step j r h0 (by rw [nameP_take r h0, hn]) (fun e g => hf e (byte_45 r g h0)), widthL, show max 1 (sizeL r) = sizeL r by omega]

set_option maxRecDepth 100000 in
set_option maxHeartbeats 2000000 in
theorem right_any (s : ByteArray) (w : World) (hs : s.size ≤ 9223372036854775807) :
    Calls Try.prog 42 #[.string s] w fun e w' => e = .returned (.bool (rightL (bl s))) ∧ Below w.heap.size w w' := by
  have H0 : Hid (rightL (bl s) = restR 0 ((bl s).drop 0)) := Lib.hid (by rw [List.drop_zero, restR_0])
  go_enter Try.func42, Try.ntmps42
  go_wp2
  go_loopw [3] (fun n wr => ∃ j k : Nat, j ≤ 24 ∧ k ≤ s.size ∧ (j = 0 ↔ k = 0) ∧ n = .int .i64 (j : Int) ∧ wr.heap[w.heap.size]? = some (.stringIter s k) ∧ Below w.heap.size w wr ∧ rightL (bl s) = restR j ((bl s).drop k)) (fun _ wr => s.size - wr.iterPos w.heap.size)
  case atStart => exact ⟨0, 0, by omega, by omega, by omega, rfl, World.iter_heap w s 0, (Below.refl _ _).alloc (Nat.le_refl _) _, H0.out⟩
  case round =>
    obtain ⟨j, k, hj, hk, hjk, rfl, hit, hb, hc⟩ := hrel
    have Hc := Lib.hid hc
    have Hb := Lib.hid hb
    have Hjk := Lib.hid hjk
    have hszw : w.heap.size < wr.heap.size := (Array.getElem?_eq_some_iff.1 hit).1
    clear hc hb hjk
    by_cases hlt : k < s.size
    · have hnx : ∀ ty, (Instr.next (.pointer (some ⟨w.heap.size, 0, none⟩)) true ty).run Try.prog wr = _ := fun ty => Lib.run_next_any_at wr w.heap.size s k ty hit hlt
      have Hne : Hid ((bl s).drop k ≠ []) := Lib.hid (fun e => by have := congrArg List.length e; rw [List.length_drop, bl_length] at this; simp at this; omega)
      have hw1 := widthL_pos ((bl s).drop k)
      have hw2 : widthL ((bl s).drop k) ≤ s.size - k := by have := widthL_le _ Hne.out; rw [List.length_drop, bl_length] at this; exact this
      have htl := told_lt ((bl s).drop k)
      have Hal := Lib.hid (fun W => allowed_any (toldL ((bl s).drop k)) W htl)
      have Hbr := Lib.hid (broken_any (s.extract k s.size))
      rw [bl_rest] at Hbr
      have Hfull : Hid (24 ≤ j → rightL (bl s) = false) := Lib.hid (fun h => by rw [Hc.out, restR_full _ _ Hne.out h])
      have Hno : Hid (nameN (toldL ((bl s).drop k)) = false → rightL (bl s) = false) := Lib.hid (fun h => by rw [Hc.out, restR_no _ _ Hne.out h])
      have Hbad : Hid (sizeL ((bl s).drop k) = 0 → rightL (bl s) = false) := Lib.hid (fun h => by rw [Hc.out, restR_zero _ _ Hne.out h])
      have Hfirst : Hid (k = 0 → toldL ((bl s).drop k) = 45 → rightL (bl s) = false) := Lib.hid (fun h g => by
        have hj0 := Hjk.out.2 h
        rw [Hc.out, hj0, restR_first _ (told_45 _ g)])
      have Hnext : Hid (sizeL ((bl s).drop k) ≠ 0 → nameN (toldL ((bl s).drop k)) = true → (k = 0 → toldL ((bl s).drop k) ≠ 45) → rightL (bl s) = restR (j + 1) ((bl s).drop (k + widthL ((bl s).drop k)))) := Lib.hid (fun h g f => by
        rw [Hc.out, restR_next _ _ h g (fun e => f (Hjk.out.1 e)), List.drop_drop])
      simp only [decode_told s k hlt] at hnx
      generalize widthL ((bl s).drop k) = wd at *
      generalize toldL ((bl s).drop k) = c at *
      have Hit2 := Lib.hid (Lib.iterAt_heap wr w.heap.size s k (k + wd) hit)
      have Hb2 := Lib.hid (Lib.below_iterAt Hb.out (k := w.heap.size) (Nat.le_refl _) s (k + wd))
      clear Hc
      by_cases h24 : j = 24
      · have Hv : Hid (rightL (bl s) = false) := Lib.hid (Hfull.out (by omega))
        have g24 : ((j : Int) == 24) = true := by simp; omega
        clear Hfull Hno Hbad Hfirst Hnext h24
        go_wp2
        go_ret
        exact ⟨by rw [Hv.out]; rfl, Hb2.out⟩
      · have g24 : ((j : Int) == 24) = false := by simp; omega
        have hj24 : j < 24 := by omega
        clear Hfull h24
        by_cases hk0 : k = 0
        · have gk : ((k : Int) == 0) = true := by simp; omega
          by_cases hc45 : c = 45
          · have Hv : Hid (rightL (bl s) = false) := Lib.hid (Hfirst.out hk0 hc45)
            have gc : ((c : Int) == 45) = true := by simp; omega
            clear Hno Hbad Hfirst Hnext hc45 hk0
            go_wp2
            go_ret
            exact ⟨by rw [Hv.out]; rfl, Hb2.out⟩
          · have gc : ((c : Int) == 45) = false := by simp; omega
            have Hf : Hid (k = 0 → c ≠ 45) := Lib.hid (fun _ => hc45)
            clear Hfirst hc45 hk0
            cases hn : nameN c with
            | false =>
              have Hv : Hid (rightL (bl s) = false) := Lib.hid (Hno.out hn)
              rw [hn] at Hal
              clear Hno Hbad Hnext hn
              go_wp2_with (go_at_call 47; refine (Hal.out _).mono ?_; rintro e w' ⟨rfl, rfl⟩)
              go_ret
              exact ⟨by rw [Hv.out]; rfl, Hb2.out⟩
            | true =>
              rw [hn] at Hal
              by_cases hz : sizeL ((bl s).drop k) = 0
              · have Hv : Hid (rightL (bl s) = false) := Lib.hid (Hbad.out hz)
                rw [decide_eq_true hz] at Hbr
                clear Hno Hbad Hnext hn hz
                go_wp2_with (first | (go_at_call 47; refine (Hal.out _).mono ?_; rintro e w' ⟨rfl, rfl⟩) | (go_at_call 48; refine (Hbr.out _).mono ?_; rintro e w' ⟨rfl, rfl⟩))
                go_ret
                exact ⟨by rw [Hv.out]; rfl, Hb2.out⟩
              · have Hst : Hid (rightL (bl s) = restR (j + 1) ((bl s).drop (k + wd))) := Lib.hid (Hnext.out hz hn Hf.out)
                rw [decide_eq_false hz] at Hbr
                clear Hno Hbad Hnext hn hz
                go_wp2_with (first | (go_at_call 47; refine (Hal.out _).mono ?_; rintro e w' ⟨rfl, rfl⟩) | (go_at_call 48; refine (Hbr.out _).mono ?_; rintro e w' ⟨rfl, rfl⟩))
                go_roundw
                case rel => exact ⟨j + 1, k + wd, by omega, by omega, by omega, by go_num, Hit2.out, Hb2.out, Hst.out⟩
                case measure =>
                  simp only [World.iterPos, Hit2.out, hit]
                  omega
        · have gk : ((k : Int) == 0) = false := by simp; omega
          have Hf : Hid (k = 0 → c ≠ 45) := Lib.hid (fun h => absurd h hk0)
          clear Hfirst hk0
          cases hn : nameN c with
          | false =>
            have Hv : Hid (rightL (bl s) = false) := Lib.hid (Hno.out hn)
            rw [hn] at Hal
            clear Hno Hbad Hnext hn
            go_wp2_with (go_at_call 47; refine (Hal.out _).mono ?_; rintro e w' ⟨rfl, rfl⟩)
            go_ret
            exact ⟨by rw [Hv.out]; rfl, Hb2.out⟩
          | true =>
            rw [hn] at Hal
            by_cases hz : sizeL ((bl s).drop k) = 0
            · have Hv : Hid (rightL (bl s) = false) := Lib.hid (Hbad.out hz)
              rw [decide_eq_true hz] at Hbr
              clear Hno Hbad Hnext hn hz
              go_wp2_with (first | (go_at_call 47; refine (Hal.out _).mono ?_; rintro e w' ⟨rfl, rfl⟩) | (go_at_call 48; refine (Hbr.out _).mono ?_; rintro e w' ⟨rfl, rfl⟩))
              go_ret
              exact ⟨by rw [Hv.out]; rfl, Hb2.out⟩
            · have Hst : Hid (rightL (bl s) = restR (j + 1) ((bl s).drop (k + wd))) := Lib.hid (Hnext.out hz hn Hf.out)
              rw [decide_eq_false hz] at Hbr
              clear Hno Hbad Hnext hn hz
              go_wp2_with (first | (go_at_call 47; refine (Hal.out _).mono ?_; rintro e w' ⟨rfl, rfl⟩) | (go_at_call 48; refine (Hbr.out _).mono ?_; rintro e w' ⟨rfl, rfl⟩))
              go_roundw
              case rel => exact ⟨j + 1, k + wd, by omega, by omega, by omega, by go_num, Hit2.out, Hb2.out, Hst.out⟩
              case measure =>
                simp only [World.iterPos, Hit2.out, hit]
                omega
    · have hnx : ∀ ty, (Instr.next (.pointer (some ⟨w.heap.size, 0, none⟩)) true ty).run Try.prog wr = _ := fun ty => Lib.run_next_end_at wr w.heap.size s k ty hit hlt
      have Hv : Hid (rightL (bl s) = decide (0 < j)) := Lib.hid (by
        rw [Hc.out, List.drop_eq_nil_of_le (by rw [bl_length]; omega), restR_nil]
        exact decide_eq_decide.2 (by omega))
      go_wp2
      go_ret
      exact ⟨by rw [Hv.out]; rfl, Hb.out⟩
end Go.Proofs.Ytbgfkjafablfiaa
