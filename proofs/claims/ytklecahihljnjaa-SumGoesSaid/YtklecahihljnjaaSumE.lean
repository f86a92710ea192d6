/-
  The laws SumDivides and SumGoes: any bytes have the sum that the division leaves, from any sum on.
-/
import Derived.Test.YtklecahihljnjaaRefM
namespace Go.Proofs.Ytklecahihljnjaa
open Go.RowKit

theorem divides_long (a : Option Addr) (len cap : Nat) (w : World) (hlen : ¬ len ≤ 2000) :
    Calls Try.prog 3 #[.slice a len cap] w fun e w' => e = .returned (.bool true) ∧ Below w.heap.size w w' := by
  have h1 : decide (2000 < (len : Int)) = true := by simp; omega
  go_enter Try.func3, Try.ntmps3
  go_wp2_with (go_at_call 8; refine (awake_any _).mono ?_; rintro e w' ⟨rfl, hb⟩)
  go_ret
  exact ⟨rfl, hb⟩
theorem goes_long (s : Int) (a : Option Addr) (len cap : Nat) (w : World) (hlen : ¬ len ≤ 2000) :
    Calls Try.prog 4 #[.int .u32 s, .slice a len cap] w fun e w' => e = .returned (.bool true) ∧ Below w.heap.size w w' := by
  have h1 : decide (2000 < (len : Int)) = true := by simp; omega
  go_enter Try.func4, Try.ntmps4
  go_wp2_with (go_at_call 8; refine (awake_any _).mono ?_; rintro e w' ⟨rfl, hb⟩)
  go_ret
  exact ⟨rfl, hb⟩

set_option maxHeartbeats 1000000 in
theorem divides_row (a : Option Addr) (len cap : Nat) (l : List Int) (w : World) (hl : l.length = len) (hrow : Row8 w a l) (hlen : len ≤ 2000) :
    Calls Try.prog 3 #[.slice a len cap] w fun e w' => e = .returned (.bool true) ∧ Below w.heap.size w w' := by
  have h1 : decide (2000 < (len : Int)) = false := by simp; omega
  have Hl := Lib.hid hl
  have Hrow := Lib.hid hrow
  have heq := Lib.hid (long_is 0 l hrow.1)
  clear hl hrow
  go_enter Try.func3, Try.ntmps3
  go_wp2_with (go_at_call 8; refine (awake_any _).mono ?_; rintro e w1 ⟨rfl, hb⟩)
  have hR := Lib.hid (Hrow.out.later hb)
  have Hb := Lib.hid hb
  clear hb
  refine (of_any _ _ _ l _ Hl.out hR.out).mono ?_
  rintro e w2 ⟨rfl, rfl⟩
  go_wp2_with fail
  refine (refof_any _ _ _ l _ Hl.out hlen hR.out).mono ?_
  rintro e w2 ⟨rfl, hb2⟩
  have hB := Lib.hid (Hb.out.trans (hb2.mono Hb.out.size))
  rw [heq.out]
  go_wp2
  go_ret
  exact ⟨rfl, hB.out⟩

set_option maxHeartbeats 1000000 in
theorem goes_row (s : Nat) (a : Option Addr) (len cap : Nat) (l : List Int) (w : World) (hs : s < 4294967296) (hl : l.length = len) (hrow : Row8 w a l) (hlen : len ≤ 2000) :
    Calls Try.prog 4 #[.int .u32 s, .slice a len cap] w fun e w' => e = .returned (.bool true) ∧ Below w.heap.size w w' := by
  have h1 : decide (2000 < (len : Int)) = false := by simp; omega
  have Hl := Lib.hid hl
  have Hrow := Lib.hid hrow
  have heq := Lib.hid (long_is s l hrow.1)
  clear hl hrow
  go_enter Try.func4, Try.ntmps4
  go_wp2_with (go_at_call 8; refine (awake_any _).mono ?_; rintro e w1 ⟨rfl, hb⟩)
  have hR := Lib.hid (Hrow.out.later hb)
  have Hb := Lib.hid hb
  clear hb
  refine (more_any _ _ _ _ l _ (by omega) (by omega) Hl.out hR.out).mono ?_
  rintro e w2 ⟨rfl, rfl⟩
  go_wp2_with fail
  refine (refmore_any _ _ _ _ l _ hs Hl.out hlen hR.out).mono ?_
  rintro e w2 ⟨rfl, hb2⟩
  have hB := Lib.hid (Hb.out.trans (hb2.mono Hb.out.size))
  rw [heq.out]
  go_wp2
  go_ret
  exact ⟨rfl, hB.out⟩
end Go.Proofs.Ytklecahihljnjaa
