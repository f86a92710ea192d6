/-
  How many bits a number wants: the contracts of math/bits.Len64 and Len in this program.
-/
import Derived.Test.YtmgbmphheagdmaaGreatDoorChecked
import Derived.Lib.Strings
import Derived.Lib.Slices
import Derived.Lib.Small
import Derived.Lib.Walk
import Derived.Lib.BitFns
namespace Go.Proofs.YtmgbmphheagdmaaGreatDoor

/-- The table's count of what is left behind s bits, and s: the count of the whole. -/
theorem len_more {x : Int} (b : Int) (s : Nat) (hx : x.toNat < 18446744073709551616) (hs : s = 0 ∨ 2 ^ s ≤ x.toNat) (h0 : 0 ≤ b) (h1 : b ≤ 255) (hb : b.toNat = x.toNat / 2 ^ s) (y : Int) (hy : ∀ t : Int, 0 ≤ t → t ≤ 8 → Lib.len8 b = t → y = s + t) :
    y = (Lib.bitLen x.toNat : Int) := by
  have e := hy _ (by omega) (by have := Lib.bitLen_le8' b h0 h1; omega) (Lib.len8_of b h0 h1)
  rw [e, hb]
  rcases hs with rfl | hs
  · simp
  · rw [Lib.bitLen_shift s x.toNat hs hx]; rfl

set_option maxRecDepth 100000 in
set_option maxHeartbeats 2000000 in
theorem len64_any (x : Int) (w : World) (h0 : 0 ≤ x) (h1 : x ≤ 18446744073709551615) :
    Calls Tryz.prog 126 #[.int .u64 x] w fun e w' => e = .returned (.int .i64 (Lib.bitLen x.toNat)) ∧ w' = w := by
  go_enter Tryz.func126, Tryz.ntmps126
  go_wp2
  all_goals (go_ret; refine ⟨congrArg Ending.returned (congrArg (Value.int IntKind.i64) ?_), rfl⟩)
  all_goals first
    | exact len_more (x % 256) 0 (by omega) (by omega) (by omega) (by omega) (by omega) _ (by intro t h h' e; rw [e]; omega)
    | exact len_more (x / 256 % 256) 8 (by omega) (by omega) (by omega) (by omega) (by omega) _ (by intro t h h' e; rw [e]; omega)
    | exact len_more (x / 65536 % 256) 16 (by omega) (by omega) (by omega) (by omega) (by omega) _ (by intro t h h' e; rw [e]; omega)
    | exact len_more (x / 65536 / 256 % 256) 24 (by omega) (by omega) (by omega) (by omega) (by omega) _ (by intro t h h' e; rw [e]; omega)
    | exact len_more (x / 4294967296 % 256) 32 (by omega) (by omega) (by omega) (by omega) (by omega) _ (by intro t h h' e; rw [e]; omega)
    | exact len_more (x / 4294967296 / 256 % 256) 40 (by omega) (by omega) (by omega) (by omega) (by omega) _ (by intro t h h' e; rw [e]; omega)
    | exact len_more (x / 4294967296 / 65536 % 256) 48 (by omega) (by omega) (by omega) (by omega) (by omega) _ (by intro t h h' e; rw [e]; omega)
    | exact len_more (x / 4294967296 / 65536 / 256 % 256) 56 (by omega) (by omega) (by omega) (by omega) (by omega) _ (by intro t h h' e; rw [e]; omega)

theorem len_any (n : Nat) (w : World) (h : n < 18446744073709551616) : Calls Tryz.prog 113 #[.int .u64 (n : Int)] w fun e w' => e = .returned (.int .i64 (Lib.bitLen n)) ∧ w' = w := by
  have h0 : (0 : Int) ≤ (n : Int) := by omega
  have h1 : (n : Int) ≤ 18446744073709551615 := by omega
  go_enter Tryz.func113, Tryz.ntmps113
  go_wp2_with (go_at_call 126; refine (len64_any (n : Int) _ h0 h1).mono ?_; rintro e w' ⟨rfl, rfl⟩)
  go_ret
  exact ⟨by simp, rfl⟩
end Go.Proofs.YtmgbmphheagdmaaGreatDoor
