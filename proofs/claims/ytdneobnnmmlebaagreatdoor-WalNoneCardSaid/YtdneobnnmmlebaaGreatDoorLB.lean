/-
  The contracts of wal.inRange, valid, allValid, appendNumber and numberOf.
-/
import Derived.Test.YtdneobnnmmlebaaGreatDoorWK
import Derived.Test.YtdneobnnmmlebaaGreatDoorKG
import Derived.Test.YtdneobnnmmlebaaGreatDoorKS
import Derived.Test.YtdneobnnmmlebaaGreatDoorLA
namespace Go.Proofs.YtdneobnnmmlebaaGreatDoor
open Go.RowKit

def inB40 (n : Int) : Bool := decide (0 ≤ n) && decide (n ≤ 1099511627776)
set_option maxRecDepth 100000 in
theorem inRange_any (n : Int) (w : World) : Calls Tryz.prog 63 #[.int .i64 n] w fun e w' => e = .returned (.bool (inB40 n)) ∧ w' = w := by
  by_cases h0 : 0 ≤ n
  · by_cases h1 : n ≤ 1099511627776
    · have H : Hid (inB40 n = true) := Lib.hid (by unfold inB40; simp [h0, h1])
      go_enter Tryz.func63, Tryz.ntmps63
      go_wp2
      go_ret
      exact ⟨by rw [H.out]; rfl, rfl⟩
    · have H : Hid (inB40 n = false) := Lib.hid (by unfold inB40; simp [h0, h1])
      go_enter Tryz.func63, Tryz.ntmps63
      go_wp2
      go_ret
      exact ⟨by rw [H.out]; rfl, rfl⟩
  · have H : Hid (inB40 n = false) := Lib.hid (by unfold inB40; simp [h0])
    go_enter Tryz.func63, Tryz.ntmps63
    go_wp2
    go_ret
    exact ⟨by rw [H.out]; rfl, rfl⟩

theorem inB40_iff (n : Int) : inB40 n = true ↔ 0 ≤ n ∧ n ≤ 1099511627776 := by unfold inB40; simp
set_option maxRecDepth 100000 in
set_option maxHeartbeats 4000000 in
theorem valid_any (r : Rc) (w : World) (hl : r.data.length ≤ 9223372036854775807) : Calls Tryz.prog 50 #[recV r] w fun e w' => e = .returned (.bool (decide (rightR r))) ∧ Below w.heap.size w w' := by
  have hbs : (bs r.data).size = r.data.length := bs_size _
  unfold recV
  have HA := Lib.hid (fun (W : World) => inRange_any r.idx W)
  have HB := Lib.hid (fun (W : World) => inRange_any r.term W)
  have HC := Lib.hid (fun (W : World) => inRange_any r.vote W)
  have hdec : decide (rightR r) = (decide (2 ≤ r.kind ∧ r.kind ≤ 4) && (inB40 r.idx && (inB40 r.term && (inB40 r.vote && decide ((r.data.length : Int) ≤ 131072))))) := by
    rw [Bool.eq_iff_iff]
    simp only [decide_eq_true_eq, Bool.and_eq_true, inB40_iff]
    unfold rightR
    omega
  obtain ⟨b1, hb1⟩ : ∃ b, b = inB40 r.idx := ⟨_, rfl⟩
  obtain ⟨b2, hb2⟩ : ∃ b, b = inB40 r.term := ⟨_, rfl⟩
  obtain ⟨b3, hb3⟩ : ∃ b, b = inB40 r.vote := ⟨_, rfl⟩
  rw [← hb1] at HA hdec
  rw [← hb2] at HB hdec
  rw [← hb3] at HC hdec
  have Hdec := Lib.hid hdec
  clear hdec hb1 hb2 hb3
  by_cases hk : 2 ≤ r.kind ∧ r.kind ≤ 4
  · rw [decide_eq_true hk] at Hdec
    have hk3 : r.kind = 2 ∨ r.kind = 3 ∨ r.kind = 4 := by omega
    clear hk
    generalize decide (rightR r) = q at *
    by_cases hlen : (r.data.length : Int) ≤ 131072
    all_goals first | rw [decide_eq_true hlen] at Hdec | rw [decide_eq_false hlen] at Hdec
    all_goals
      obtain ⟨a, b, c, d, s⟩ := r
      simp only at *
      generalize bs s = t at *
      cases b1 <;> cases b2 <;> cases b3 <;> rcases hk3 with rfl | rfl | rfl
      all_goals
        have Hq : Hid (q = _) := Lib.hid Hdec.out
        clear Hdec
        go_enter Tryz.func50, Tryz.ntmps50
        go_wp2_with (go_at_call 63; first | (with_reducible refine (HA.out _).mono ?_; rintro e w' ⟨rfl, rfl⟩) | (with_reducible refine (HB.out _).mono ?_; rintro e w' ⟨rfl, rfl⟩) | (with_reducible refine (HC.out _).mono ?_; rintro e w' ⟨rfl, rfl⟩))
        go_ret
        exact ⟨by rw [Hq.out]; first | rfl | exact congrArg (fun b => Ending.returned (.bool b)) (decide_eq_false (by omega)) | exact congrArg (fun b => Ending.returned (.bool b)) (decide_eq_true (by omega)), (Below.refl _ _).alloc (Nat.le_refl _) _⟩
  · rw [decide_eq_false hk] at Hdec
    have hk2 : (r.kind == 2) = false := by rw [beq_eq_false_iff_ne]; omega
    have hk3 : (r.kind == 3) = false := by rw [beq_eq_false_iff_ne]; omega
    have hk4 : (r.kind == 4) = false := by rw [beq_eq_false_iff_ne]; omega
    clear hk
    generalize decide (rightR r) = q at *
    obtain ⟨a, b, c, d, s⟩ := r
    simp only at *
    generalize bs s = t at *
    have Hq : Hid (q = false) := Lib.hid (by rw [Hdec.out]; rfl)
    clear Hdec
    go_enter Tryz.func50, Tryz.ntmps50
    go_wp2
    go_ret
    exact ⟨by rw [Hq.out]; rfl, (Below.refl _ _).alloc (Nat.le_refl _) _⟩
end Go.Proofs.YtdneobnnmmlebaaGreatDoor
