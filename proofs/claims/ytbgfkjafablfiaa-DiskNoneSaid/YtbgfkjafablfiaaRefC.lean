/-
  The contract of the reference's itself, and of its Count.
-/
import Derived.Test.YtbgfkjafablfiaaRefB
namespace Go.Proofs.Ytbgfkjafablfiaa
open Go.RowKit

theorem selfL_1 (r : ByteArray) (h : r.size = 1) (c : Nat) (hc : byteN (bl r) 0 = c) : selfL (bl r) = decide (32 ≤ c ∧ c ≤ 126 ∧ c ≠ 92) := by
  unfold selfL; rw [if_pos (by rw [bl_length]; exact h), hc]
theorem selfL_2 (r : ByteArray) (h : r.size = 2) (hc : byteN (bl r) 0 = 194) (d : Nat) (hd : byteN (bl r) 1 = d) : selfL (bl r) = decide (161 ≤ d) := by
  unfold selfL; rw [if_neg (by rw [bl_length]; omega), if_pos (by rw [bl_length]; exact ⟨h, hc⟩), hd]
theorem selfL_n (r : ByteArray) (h : r.size ≠ 1) (h2 : ¬ (r.size = 2 ∧ byteN (bl r) 0 = 194)) : selfL (bl r) = decide (1 < r.size) := by
  unfold selfL; rw [if_neg (by rw [bl_length]; omega), if_neg (by rw [bl_length]; exact h2), bl_length]

set_option maxRecDepth 100000 in
set_option maxHeartbeats 1000000 in
theorem itself_any (r : ByteArray) (w : World) : Calls Try.prog 46 #[.string r] w fun e w' => e = .returned (.bool (selfL (bl r))) ∧ w' = w := by
  by_cases h1 : r.size = 1
  · have h0 : 0 < r.size := by omega
    obtain ⟨c, hc⟩ : ∃ c, r[0].toNat = c := ⟨_, rfl⟩
    have Hv := Lib.hid (selfL_1 r h1 c (by rw [bl_byte r 0 h0, hc]))
    have hc8 : c < 256 := by rw [← hc]; exact r[0].toNat_lt
    have h1' : ((r.size : Int) == 1) = true := by simp; omega
    by_cases g1 : (32 : Int) ≤ (c : Int)
    · by_cases g2 : (c : Int) ≤ 126
      · by_cases g3 : c = 92
        · have g3' : ((c : Int) != 92) = false := by simp; omega
          have Hd : Hid (decide (32 ≤ c ∧ c ≤ 126 ∧ c ≠ 92) = false) := Lib.hid (decide_eq_false (by omega))
          clear g3
          go_enter Try.func46, Try.ntmps46
          go_wp2
          go_ret
          exact ⟨by rw [Hv.out, Hd.out]; rfl, rfl⟩
        · have g3' : ((c : Int) != 92) = true := by simp; omega
          have Hd : Hid (decide (32 ≤ c ∧ c ≤ 126 ∧ c ≠ 92) = true) := Lib.hid (decide_eq_true (by omega))
          clear g3
          go_enter Try.func46, Try.ntmps46
          go_wp2
          go_ret
          exact ⟨by rw [Hv.out, Hd.out]; rfl, rfl⟩
      · have Hd : Hid (decide (32 ≤ c ∧ c ≤ 126 ∧ c ≠ 92) = false) := Lib.hid (decide_eq_false (by omega))
        go_enter Try.func46, Try.ntmps46
        go_wp2
        go_ret
        exact ⟨by rw [Hv.out, Hd.out]; rfl, rfl⟩
    · have Hd : Hid (decide (32 ≤ c ∧ c ≤ 126 ∧ c ≠ 92) = false) := Lib.hid (decide_eq_false (by omega))
      go_enter Try.func46, Try.ntmps46
      go_wp2
      go_ret
      exact ⟨by rw [Hv.out, Hd.out]; rfl, rfl⟩
  · have h1' : ((r.size : Int) == 1) = false := by simp; omega
    by_cases h2 : r.size = 2
    · have h2' : ((r.size : Int) == 2) = true := by simp; omega
      have h0 : 0 < r.size := by omega
      have h01 : 1 < r.size := by omega
      obtain ⟨c, hc⟩ : ∃ c, r[0].toNat = c := ⟨_, rfl⟩
      obtain ⟨d, hd⟩ : ∃ d, r[1].toNat = d := ⟨_, rfl⟩
      have hd8 : d < 256 := by rw [← hd]; exact r[1].toNat_lt
      by_cases g1 : c = 194
      · have g1' : ((c : Int) == 194) = true := by simp; omega
        have Hv := Lib.hid (selfL_2 r h2 (by rw [bl_byte r 0 h0, hc, g1]) d (by rw [bl_byte r 1 h01, hd]))
        clear g1
        by_cases g2 : (161 : Int) ≤ (d : Int)
        · have Hd : Hid (decide (161 ≤ d) = true) := Lib.hid (decide_eq_true (by omega))
          go_enter Try.func46, Try.ntmps46
          go_wp2
          go_ret
          exact ⟨by rw [Hv.out, Hd.out]; rfl, rfl⟩
        · have Hd : Hid (decide (161 ≤ d) = false) := Lib.hid (decide_eq_false (by omega))
          go_enter Try.func46, Try.ntmps46
          go_wp2
          go_ret
          exact ⟨by rw [Hv.out, Hd.out]; rfl, rfl⟩
      · have g1' : ((c : Int) == 194) = false := by simp; omega
        have Hv := Lib.hid (selfL_n r h1 (by rw [bl_byte r 0 h0, hc]; omega))
        have Hd : Hid (decide (1 < r.size) = true) := Lib.hid (decide_eq_true (by omega))
        have hgt : (1 : Int) < (r.size : Int) := by omega
        clear g1
        go_enter Try.func46, Try.ntmps46
        go_wp2
        go_ret
        exact ⟨by rw [Hv.out, Hd.out]; rfl, rfl⟩
    · have h2' : ((r.size : Int) == 2) = false := by simp; omega
      have Hv := Lib.hid (selfL_n r h1 (by omega))
      by_cases g : 1 < r.size
      · have Hd : Hid (decide (1 < r.size) = true) := Lib.hid (decide_eq_true g)
        have hgt : (1 : Int) < (r.size : Int) := by omega
        go_enter Try.func46, Try.ntmps46
        go_wp2
        go_ret
        exact ⟨by rw [Hv.out, Hd.out]; rfl, rfl⟩
      · have Hd : Hid (decide (1 < r.size) = false) := Lib.hid (decide_eq_false g)
        have hgt : ¬ (1 : Int) < (r.size : Int) := by omega
        go_enter Try.func46, Try.ntmps46
        go_wp2
        go_ret
        exact ⟨by rw [Hv.out, Hd.out]; rfl, rfl⟩

/-- So many runes, and those of the rest. -/
def cplus (j : Nat) (c : Int) : Int := if c < 0 then -1 else (j : Int) + c
theorem countL_nil : countL [] = 0 := by decide
theorem countL_ge (l : List UInt8) : -1 ≤ countL l := by unfold countL; split <;> omega
theorem countL_zero (l : List UInt8) (h : l ≠ []) (hs : sizeL l = 0) : countL l = -1 := by
  unfold countL
  rw [pieces_step l h, if_pos hs]
  simp
theorem countL_step (l : List UInt8) (hs : sizeL l ≠ 0) : countL l = cplus 1 (countL (l.drop (sizeL l))) := by
  have h : l ≠ [] := fun e => hs (by rw [e, sizeL_nil])
  unfold countL cplus
  rw [pieces_step l h, if_neg hs]
  simp only [List.all_cons, Bool.true_and, List.length_cons]
  by_cases hq : (piecesL (l.drop (sizeL l))).all (·.2) = true
  · rw [if_pos hq, if_pos hq, if_neg (by omega)]; omega
  · rw [if_neg hq, if_neg hq, if_pos (by omega)]
theorem cplus_more (j : Nat) (c : Int) : cplus j (cplus 1 c) = cplus (j + 1) c := by
  unfold cplus
  by_cases hc : c < 0
  · rw [if_pos hc, if_pos (by omega), if_pos hc]
  · rw [if_neg hc, if_neg (by omega), if_neg hc]; omega
theorem bl_rest (s : ByteArray) (k : Nat) : bl (s.extract k s.size) = (bl s).drop k := by
  rw [bl_extract, List.take_of_length_le (by rw [List.length_drop, bl_length]; omega)]
end Go.Proofs.Ytbgfkjafablfiaa
