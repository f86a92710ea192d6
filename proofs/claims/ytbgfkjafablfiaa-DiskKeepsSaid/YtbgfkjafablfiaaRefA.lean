/-
  The contracts of the reference's within and tail.
-/
import Derived.Test.YtbgfkjafablfiaaUC
import Derived.Lib.Strings
import Derived.Lib.Slices
import Derived.Lib.Small
import Derived.Lib.Walk
namespace Go.Proofs.Ytbgfkjafablfiaa
open Go.RowKit

theorem bl_byte (s : ByteArray) (k : Nat) (h : k < s.size) : byteN (bl s) k = s[k].toNat := by
  unfold byteN; rw [bl_get s k h]
theorem inB_iff (s : ByteArray) (k lo hi c : Nat) (h : k < s.size) (hc : s[k].toNat = c) : inB (bl s) k lo hi ↔ lo ≤ c ∧ c ≤ hi := by
  unfold inB; rw [bl_byte s k h, hc, bl_length]; exact ⟨fun x => x.2, fun x => ⟨h, x⟩⟩

set_option maxRecDepth 100000 in
set_option maxHeartbeats 1000000 in
theorem within_any (s : ByteArray) (k lo hi : Nat) (w : World) :
    Calls Try.prog 52 #[.string s, .int .i64 (k : Int), .int .u8 (lo : Int), .int .u8 (hi : Int)] w fun e w' => e = .returned (.bool (decide (inB (bl s) k lo hi))) ∧ w' = w := by
  by_cases hks : k < s.size
  · obtain ⟨c, hc⟩ : ∃ c, s[k].toNat = c := ⟨_, rfl⟩
    have Hi := Lib.hid (inB_iff s k lo hi c hks hc)
    have hc8 : c < 256 := by rw [← hc]; exact s[k].toNat_lt
    by_cases g1 : lo ≤ c
    · by_cases g2 : c ≤ hi
      · have Hv : Hid (decide (inB (bl s) k lo hi) = true) := Lib.hid (decide_eq_true (Hi.out.2 ⟨g1, g2⟩))
        have g1' : (lo : Int) ≤ (c : Int) := by omega
        have g2' : (c : Int) ≤ (hi : Int) := by omega
        go_enter Try.func52, Try.ntmps52
        go_wp2
        go_ret
        exact ⟨by rw [Hv.out]; rfl, rfl⟩
      · have Hv : Hid (decide (inB (bl s) k lo hi) = false) := Lib.hid (decide_eq_false (fun h => g2 (Hi.out.1 h).2))
        have g1' : (lo : Int) ≤ (c : Int) := by omega
        have g2' : ¬ (c : Int) ≤ (hi : Int) := by omega
        go_enter Try.func52, Try.ntmps52
        go_wp2
        go_ret
        exact ⟨by rw [Hv.out]; rfl, rfl⟩
    · have Hv : Hid (decide (inB (bl s) k lo hi) = false) := Lib.hid (decide_eq_false (fun h => g1 (Hi.out.1 h).1))
      have g1' : ¬ (lo : Int) ≤ (c : Int) := by omega
      go_enter Try.func52, Try.ntmps52
      go_wp2
      go_ret
      exact ⟨by rw [Hv.out]; rfl, rfl⟩
  · have Hv : Hid (decide (inB (bl s) k lo hi) = false) := Lib.hid (decide_eq_false (fun h => hks (by have := h.1; rw [bl_length] at this; exact this)))
    have hks' : ¬ (k : Int) < (s.size : Int) := by omega
    go_enter Try.func52, Try.ntmps52
    go_wp2
    go_ret
    exact ⟨by rw [Hv.out]; rfl, rfl⟩

/-- Are there so many bytes from 80 to bf, from a place on? -/
def tailP (l : List UInt8) (k n : Nat) : Prop := ∀ j, j < n → inB l (k + j) 128 191
theorem tail_all (l : List UInt8) (k n : Nat) : tailP l k n ↔ ((List.range n).all fun j => decide (inB l (k + j) 128 191)) = true := by
  unfold tailP; simp
instance (l : List UInt8) (k n : Nat) : Decidable (tailP l k n) := decidable_of_iff _ (tail_all l k n).symm
theorem tail1 (l : List UInt8) : tailP l 1 1 ↔ inB l 1 128 191 := ⟨fun h => h 0 (by omega), fun h j hj => by
    obtain rfl : j = 0 := by omega
    exact h⟩
theorem tail2 (l : List UInt8) : tailP l 1 2 ↔ inB l 1 128 191 ∧ inB l 2 128 191 :=
  ⟨fun h => ⟨h 0 (by omega), h 1 (by omega)⟩, fun h j hj => by
    have : j = 0 ∨ j = 1 := by omega
    rcases this with rfl | rfl
    · exact h.1
    · exact h.2⟩
theorem tail3 (l : List UInt8) : tailP l 1 3 ↔ inB l 1 128 191 ∧ inB l 2 128 191 ∧ inB l 3 128 191 :=
  ⟨fun h => ⟨h 0 (by omega), h 1 (by omega), h 2 (by omega)⟩, fun h j hj => by
    have : j = 0 ∨ j = 1 ∨ j = 2 := by omega
    rcases this with rfl | rfl | rfl
    · exact h.1
    · exact h.2.1
    · exact h.2.2⟩

set_option maxRecDepth 100000 in
set_option maxHeartbeats 1000000 in
theorem tail_any (s : ByteArray) (k n : Nat) (w : World) (hk : k ≤ 100) (hn : n ≤ 100) :
    Calls Try.prog 53 #[.string s, .int .i64 (k : Int), .int .i64 (n : Int)] w fun e w' => e = .returned (.bool (decide (tailP (bl s) k n))) ∧ w' = w := by
  go_enter Try.func53, Try.ntmps53
  go_wp2
  go_loop [7] (fun i => ∃ j : Nat, j ≤ n ∧ i = .int .i64 (j : Int) ∧ ∀ q, q < j → inB (bl s) (k + q) 128 191) (fun i => n + 1 - (intOf i).toNat)
  case atStart => exact ⟨0, by omega, rfl, fun q hq => by omega⟩
  case round =>
    obtain ⟨j, hj, rfl, hq⟩ := hrel
    have Hq := Lib.hid hq
    clear hq
    by_cases hlt : j < n
    · have Hc := Lib.hid (within_any s (k + j) 128 191 w)
      rw [show ((k + j : Nat) : Int) = (k : Int) + (j : Int) by omega] at Hc
      have hlt' : (j : Int) < (n : Int) := by omega
      by_cases hb : inB (bl s) (k + j) 128 191
      · have Hd : Hid (decide (inB (bl s) (k + j) 128 191) = true) := Lib.hid (decide_eq_true hb)
        have Hn : Hid (∀ q, q < j + 1 → inB (bl s) (k + q) 128 191) := Lib.hid (fun q hq => by
          by_cases h : q < j
          · exact Hq.out q h
          · obtain rfl : q = j := by omega
            exact hb)
        clear hb
        go_wp2_with (go_at_call 52; refine Hc.out.mono ?_; rintro e w' ⟨rfl, rfl⟩; rw [Hd.out])
        go_round
        case rel => exact ⟨j + 1, by omega, by go_num, Hn.out⟩
        case measure => simp [intOf]; omega
      · have Hd : Hid (decide (inB (bl s) (k + j) 128 191) = false) := Lib.hid (decide_eq_false hb)
        have Hv : Hid (decide (tailP (bl s) k n) = false) := Lib.hid (decide_eq_false (fun h => hb (h j hlt)))
        clear hb
        go_wp2_with (go_at_call 52; refine Hc.out.mono ?_; rintro e w' ⟨rfl, rfl⟩; rw [Hd.out])
        go_ret
        exact ⟨by rw [Hv.out]; rfl, rfl⟩
    · obtain rfl : j = n := by omega
      have Hv : Hid (decide (tailP (bl s) k j) = true) := Lib.hid (decide_eq_true Hq.out)
      go_wp2
      go_ret
      exact ⟨by rw [Hv.out]; rfl, rfl⟩
end Go.Proofs.Ytbgfkjafablfiaa
