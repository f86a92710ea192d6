/-
  The contracts of math/bits.RotateLeft32 at turns to the right, and of exchequerref02.turn.
-/
import Derived.Test.YtemiphbblaikjaaDoorProg
import Derived.Test.YtemiphbblaikjaaDoorMath
import Derived.WalkKit
import Derived.WalkLawsBesides
import Derived.WalkSpells
import Derived.Lib.Hide
namespace Go.Proofs.YtemiphbblaikjaaDoor
open Go.RowKit

theorem rr_left (x : BitVec 32) (n : Nat) : bits BinOp.or IntKind.u32 (wI x / 2 ^ n) (wI x * 2 ^ (32 - n) % 4294967296) = wI (rr x n) := by
  have h1 := wI_shr x n
  have h2 := wI_shl x (32 - n)
  rw [Int.natCast_pow] at h1 h2
  rw [show ((2 : Int) ^ n) = ((2 : Nat) : Int) ^ n from rfl, show ((2 : Int) ^ (32 - n)) = ((2 : Nat) : Int) ^ (32 - n) from rfl, h1, h2, wI_or]; rfl
theorem rr_right (x : BitVec 32) (n : Nat) : bits BinOp.or IntKind.u32 (wI x * 2 ^ (32 - n) % 4294967296) (wI x / 2 ^ n) = wI (rr x n) := by
  have h1 := wI_shr x n
  have h2 := wI_shl x (32 - n)
  rw [Int.natCast_pow] at h1 h2
  rw [show ((2 : Int) ^ n) = ((2 : Nat) : Int) ^ n from rfl, show ((2 : Int) ^ (32 - n)) = ((2 : Nat) : Int) ^ (32 - n) from rfl, h1, h2, wI_or, BitVec.or_comm]; rfl
theorem ret_int {k : IntKind} {a b : Int} (h : a = b) : Ending.returned (.int k a) = .returned (.int k b) := by rw [h]

theorem low5 (n : Nat) (h0 : 0 < n) (h1 : n < 32) : bits BinOp.and IntKind.u64 (IntKind.u64.wrap (-(n : Int))) 31 = ((32 - n : Nat) : Int) := by
  have e : IntKind.u64.wrap (-(n : Int)) = ((18446744073709551616 - n : Nat) : Int) := by
    simp [IntKind.wrap, IntKind.bits, IntKind.signed]; omega
  rw [e]
  have := u64_and_nat (18446744073709551616 - n) 31 (by omega) (by omega)
  rw [show ((31 : Nat) : Int) = 31 from rfl] at this
  rw [this, show (31 : Nat) = 2 ^ 5 - 1 from rfl, Nat.and_two_pow_sub_one_eq_mod]
  omega
theorem rot_any (x : BitVec 32) (n : Nat) (k : Int) (w : World) (hk : k = -(n : Int)) (h0 : 0 < n) (h1 : n < 32) :
    Calls Tryd.prog 34 #[.int .u32 (wI x), .int .i64 k] w fun e w' => e = .returned (.int .u32 (wI (rr x n))) ∧ w = w' := by
  have b0 := wI_lo x
  have b1 := wI_hi x
  have h5 : bits BinOp.and IntKind.u64 (IntKind.u64.wrap k) 31 = ((32 - n : Nat) : Int) := by rw [hk]; exact low5 n h0 h1
  have hR := Lib.hid (rr_right x n)
  clear hk
  obtain ⟨m, hm⟩ : ∃ m, m = 32 - n := ⟨_, rfl⟩
  rw [← hm] at h5
  have hm1 : 0 < m := by omega
  have hm2 : m < 32 := by omega
  have hn : (32 : Int) - m = n := by omega
  have HM := Lib.hid hm
  clear hm
  go_enter Tryd.func34, Tryd.ntmps34
  go_wp2
  go_ret
  exact ⟨ret_int (by rw [HM.out]; exact hR.out), rfl⟩
/-- The turn by a negative number, as the text writes it. -/
def rrI (x : BitVec 32) (k : Int) : BitVec 32 := rr x (-k).toNat
theorem rot_k (x : BitVec 32) (k : Int) (w : World) (h0 : -32 < k) (h1 : k < 0) :
    Calls Tryd.prog 34 #[.int .u32 (wI x), .int .i64 k] w fun e w' => e = .returned (.int .u32 (wI (rrI x k))) ∧ w = w' :=
  rot_any x (-k).toNat k w (by omega) (by omega) (by omega)
theorem turn_any (x : BitVec 32) (n : Nat) (w : World) (h0 : 0 < n) (h1 : n < 32) :
    Calls Tryd.prog 26 #[.int .u32 (wI x), .int .u64 n] w fun e w' => e = .returned (.int .u32 (wI (rr x n))) ∧ w = w' := by
  have b0 := wI_lo x
  have b1 := wI_hi x
  go_enter Tryd.func26, Tryd.ntmps26
  go_wp2
  go_ret
  exact ⟨ret_int (rr_left x n), rfl⟩
end Go.Proofs.YtemiphbblaikjaaDoor
