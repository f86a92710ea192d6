/-
  The law SumBursts: bytes of which bits are turned that stand within 32 that follow one another have another sum.
-/
import Derived.Test.YtklecahihljnjaaMathB
namespace Go.Proofs.Ytklecahihljnjaa
open Go.RowKit

theorem row8_own {w : World} {base g len c : Nat} {l : List Int} (h : w.ownsRow base 5 1 (.slice (some ⟨g, 0, none⟩) len c) len (l.map (.int .u8))) (hby : ∀ c ∈ l, 0 ≤ c ∧ c < 256) (hlen : len ≤ 140737488351232) :
    l.length = len ∧ Row8 w (some ⟨g, 0, none⟩) l := by
  have hl : l.length = len := by have := h.1; simpa using this
  refine ⟨hl, hby, by omega, .inr ⟨g, 0, rfl, fun i hi => ?_⟩⟩
  rw [Nat.zero_add]
  exact own_cell h (by omega)

theorem or1_b32 (x : Int) (h0 : 0 ≤ x) (h1 : x < 4294967296) : ∃ p : Nat, bits BinOp.or IntKind.u32 x 1 = (p : Int) ∧ p < 4294967296 ∧ p % 2 = 1 := by
  obtain ⟨n, rfl⟩ := Int.eq_ofNat_of_zero_le h0
  have h := u32_or_nat n 1 (by omega) (by omega)
  have hlt : n ||| 1 < 2 ^ 32 := Nat.or_lt_two_pow (by omega) (by omega)
  refine ⟨n ||| 1, h, by omega, ?_⟩
  rw [← nat_mask1, Nat.and_or_distrib_right]
  rw [nat_mask1]
  rcases Nat.mod_two_eq_zero_or_one n with h | h <;> rw [h] <;> rfl

set_option maxHeartbeats 1000000 in
theorem bursts_row (b off len cap : Nat) (l : List Int) (at_ : Nat) (pat : Int) (w : World) (hl : l.length = len) (hrow : Row8 w (some ⟨b, off, none⟩) l) (hlen : len ≤ 100000)
    (hat : at_ < 8 * len) (hp0 : 0 ≤ pat) (hp1 : pat < 4294967296) :
    Calls Try.prog 6 #[.slice (some ⟨b, off, none⟩) len cap, .int .i64 at_, .int .u32 pat] w fun e w' => e = .returned (.bool true) ∧ Below w.heap.size w w' := by
  have h1 : decide (100000 < (len : Int)) = false := by simp; omega
  have h2 : decide ((at_ : Int) < 0) = false := by simp
  have h3 : decide (8 * (len : Int) ≤ (at_ : Int)) = false := by simp; omega
  obtain ⟨p, hp, hp2, hp3⟩ := or1_b32 pat hp0 hp1
  have Hp := Lib.hid hp
  have Hl := Lib.hid hl
  have Hrow := Lib.hid hrow
  have hrow0 := Lib.hid hrow.1
  clear hp hl hrow
  go_enter Try.func6, Try.ntmps6
  go_wp2_with (go_at_call 8; refine (awake_any _).mono ?_; rintro e w' ⟨rfl, hb⟩)
  rw [Hp.out]
  have hR := Lib.hid (Hrow.out.later hb)
  refine (turn_any b off len cap l at_ p _ Hl.out hlen hR.out hat hp2).mono ?_
  rintro e w1 ⟨g, c, rfl, hown, hb1⟩
  obtain ⟨t1, t2⟩ := row8_own hown (fold_turn 0#32 l at_ p hrow0.out 32 (by omega)).2 (by omega)
  have HT1 := Lib.hid t1
  have HT2 := Lib.hid t2
  have hR1 := Lib.hid (hR.out.later hb1)
  have hne := Lib.hid (burst 0 l at_ p hrow0.out (by rw [Hl.out]; exact hat) hp3)
  have hB := Lib.hid (hb.trans (hb1.mono hb.size))
  clear t1 t2 hown hb hb1
  go_wp2_with fail
  refine (of_any _ _ _ _ _ HT1.out HT2.out).mono ?_
  rintro e w2 ⟨rfl, rfl⟩
  go_wp2_with fail
  refine (of_any _ _ _ l _ Hl.out hR1.out).mono ?_
  rintro e w2 ⟨rfl, rfl⟩
  have hne' : (moreI 0 (turnL l at_ p 32) != moreI 0 l) = true := by simp; exact hne.out
  go_wp2
  go_ret
  exact ⟨rfl, hB.out⟩

/-- Where nothing is asked. -/
theorem bursts_long (a : Option Addr) (len cap : Nat) (x pat : Int) (w : World) (hlen : ¬ len ≤ 100000) :
    Calls Try.prog 6 #[.slice a len cap, .int .i64 x, .int .u32 pat] w fun e w' => e = .returned (.bool true) ∧ Below w.heap.size w w' := by
  have h1 : decide (100000 < (len : Int)) = true := by simp; omega
  go_enter Try.func6, Try.ntmps6
  go_wp2_with (go_at_call 8; refine (awake_any _).mono ?_; rintro e w' ⟨rfl, hb⟩)
  go_ret
  exact ⟨rfl, hb⟩
theorem bursts_less (a : Option Addr) (len cap : Nat) (x pat : Int) (w : World) (hlen : len ≤ 100000) (hx : x < 0) :
    Calls Try.prog 6 #[.slice a len cap, .int .i64 x, .int .u32 pat] w fun e w' => e = .returned (.bool true) ∧ Below w.heap.size w w' := by
  have h1 : decide (100000 < (len : Int)) = false := by simp; omega
  have h2 : decide (x < 0) = true := by simp; omega
  go_enter Try.func6, Try.ntmps6
  go_wp2_with (go_at_call 8; refine (awake_any _).mono ?_; rintro e w' ⟨rfl, hb⟩)
  go_ret
  exact ⟨rfl, hb⟩
theorem bursts_past (a : Option Addr) (len cap : Nat) (x pat : Int) (w : World) (hlen : len ≤ 100000) (hx : 0 ≤ x) (hx' : 8 * (len : Int) ≤ x) :
    Calls Try.prog 6 #[.slice a len cap, .int .i64 x, .int .u32 pat] w fun e w' => e = .returned (.bool true) ∧ Below w.heap.size w w' := by
  have h1 : decide (100000 < (len : Int)) = false := by simp; omega
  have h2 : decide (x < 0) = false := by simp; omega
  have h3 : decide (8 * (len : Int) ≤ x) = true := by simp; omega
  go_enter Try.func6, Try.ntmps6
  go_wp2_with (go_at_call 8; refine (awake_any _).mono ?_; rintro e w' ⟨rfl, hb⟩)
  go_ret
  exact ⟨rfl, hb⟩
end Go.Proofs.Ytklecahihljnjaa
