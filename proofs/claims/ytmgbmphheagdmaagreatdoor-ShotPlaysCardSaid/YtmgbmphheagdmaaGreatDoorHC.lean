/-
  The contract of exchequerref01.divide: the division of polynomials, coefficient by coefficient, in a row of the call's own.
-/
import Derived.Test.YtmgbmphheagdmaaGreatDoorHB
namespace Go.Proofs.YtmgbmphheagdmaaGreatDoor
open Go.RowKit
set_option maxRecDepth 100000

def powersL : List Nat := [26, 23, 22, 16, 12, 11, 10, 8, 7, 5, 4, 2, 1, 0]
@[irreducible] def pw (q : Nat) : Nat := powersL.getD q 0
theorem pw_le (q : Nat) : pw q ≤ 26 := by
  unfold pw
  rcases Nat.lt_or_ge q 14 with h | h
  · have : q = 0 ∨ q = 1 ∨ q = 2 ∨ q = 3 ∨ q = 4 ∨ q = 5 ∨ q = 6 ∨ q = 7 ∨ q = 8 ∨ q = 9 ∨ q = 10 ∨ q = 11 ∨ q = 12 ∨ q = 13 := by omega
    rcases this with rfl | rfl | rfl | rfl | rfl | rfl | rfl | rfl | rfl | rfl | rfl | rfl | rfl | rfl <;> decide
  · rw [List.getD_eq_getElem?_getD, List.getElem?_eq_none (by simpa [powersL] using h)]; decide

/-- The first q of the flips at place i. -/
def flipQ (l : List Bool) (i : Nat) : Nat → List Bool
  | 0 => l
  | q + 1 => (flipQ l i q).set (i + 32 - pw q) (!(flipQ l i q).getD (i + 32 - pw q) false)
def stepsL (l : List Bool) : Nat → List Bool
  | 0 => l
  | k + 1 => if (stepsL l k).getD k false then flipQ (stepsL l k) k 14 else stepsL l k
/-- What the last loop has told after d rounds. -/
def outN (l : List Bool) : Nat → Nat
  | 0 => 0
  | d + 1 => 2 * outN l d + (if l.getD (l.length - 32 + (31 - d)) false then 0 else 1)
theorem outN_lt (l : List Bool) (d : Nat) : outN l d < 2 ^ d := by
  induction d with
  | zero => simp [outN]
  | succ d ih => rw [outN, Nat.pow_succ]; split <;> omega
theorem flipQ_length (l : List Bool) (i q : Nat) : (flipQ l i q).length = l.length := by
  induction q with
  | zero => rfl
  | succ q ih => rw [flipQ, List.length_set, ih]
theorem stepsL_length (l : List Bool) (k : Nat) : (stepsL l k).length = l.length := by
  induction k with
  | zero => rfl
  | succ k ih => rw [stepsL]; split <;> simp [flipQ_length, ih]

theorem own_bool {w : World} {base g n c : Nat} {l : List Bool} (h : w.ownsRow base 4 1 (.slice (some ⟨g, 0, none⟩) n c) n (l.map .bool)) {i : Nat} (hi : i < n) :
    w.cell? ⟨g, i, none⟩ = some (.bool (l.getD i false)) := by
  rw [h.cellAt i (by omega)]
  have hl : i < l.length := by have := h.1; simp at this; omega
  rw [List.getElem?_map, List.getD_eq_getElem?_getD, List.getElem?_eq_getElem hl]; rfl

theorem tail_f (x : Nat) : Value.int IntKind.u32 ((x : Int) * 2 + 1) = Value.int IntKind.u32 ((2 * x + (if false = true then 0 else 1) : Nat) : Int) := by
  congr 1; simp; omega
theorem tail_t (x : Nat) : Value.int IntKind.u32 ((x : Int) * 2) = Value.int IntKind.u32 ((2 * x + (if true = true then 0 else 1) : Nat) : Int) := by
  congr 1; simp; omega

theorem powers_cell (w : World) (q : Nat) (hq : q < 14) : (w.alloc (.cells #[.int .i64 26, .int .i64 23, .int .i64 22, .int .i64 16, .int .i64 12, .int .i64 11, .int .i64 10, .int .i64 8, .int .i64 7, .int .i64 5, .int .i64 4, .int .i64 2, .int .i64 1, .int .i64 0] 3)).cell? ⟨w.heap.size, q, none⟩ = some (.int .i64 (pw q : Int)) := by
  rw [World.cell?_alloc_mark]
  unfold pw
  have : q = 0 ∨ q = 1 ∨ q = 2 ∨ q = 3 ∨ q = 4 ∨ q = 5 ∨ q = 6 ∨ q = 7 ∨ q = 8 ∨ q = 9 ∨ q = 10 ∨ q = 11 ∨ q = 12 ∨ q = 13 := by omega
  rcases this with rfl | rfl | rfl | rfl | rfl | rfl | rfl | rfl | rfl | rfl | rfl | rfl | rfl | rfl <;> rfl

set_option maxRecDepth 100000 in
set_option maxHeartbeats 4000000 in
theorem divref_any (base g n cap : Nat) (l : List Bool) (w : World) (hn : 32 ≤ n) (hn' : n ≤ 100000000) (hbase : base ≤ w.heap.size) (hbg : base ≤ g) (hg : g < w.heap.size)
    (hown : w.ownsRow base 4 1 (.slice (some ⟨g, 0, none⟩) n cap) n (l.map .bool)) :
    Calls Tryz.prog 94 #[.slice (some ⟨g, 0, none⟩) n cap] w fun e w' => e = .returned (.int .u32 (outN (stepsL l (n - 32)) 32)) ∧ Below base w w' := by
  have Hown := Lib.hid hown
  have hl : Hid (l.length = n) := Lib.hid (by have := hown.1; simpa using this)
  have hpw := Lib.hid (powers_cell w)
  clear hown
  go_enter Tryz.func94, Tryz.ntmps94
  go_wp2
  obtain ⟨W1, hW1, own1, bel1, pow1⟩ : ∃ W1 : World, (w.alloc (.cells #[.int .i64 26, .int .i64 23, .int .i64 22, .int .i64 16, .int .i64 12, .int .i64 11, .int .i64 10, .int .i64 8, .int .i64 7, .int .i64 5, .int .i64 4, .int .i64 2, .int .i64 1, .int .i64 0] 3)) = W1 ∧
      W1.ownsRow base 4 1 (.slice (some ⟨g, 0, none⟩) n cap) n (l.map .bool) ∧ Below base w W1 ∧ ∀ q, q < 14 → W1.cell? ⟨w.heap.size, q, none⟩ = some (.int .i64 (pw q : Int)) :=
    ⟨_, rfl, Hown.out.alloc _, (Below.refl _ _).alloc hbase _, hpw.out⟩
  rw [hW1]
  have hne : w.heap.size ≠ g := by omega
  have Own1 := Lib.hid own1
  have Bel1 := Lib.hid bel1
  have Pow1 := Lib.hid pow1
  have Hne := Lib.hid hne
  clear hW1 own1 bel1 pow1 hpw hne Hown
  go_loopw [4, 6] (fun i _ wr => ∃ k : Nat, k + 32 ≤ n ∧ i = .int .i64 k ∧ wr.ownsRow base 4 1 (.slice (some ⟨g, 0, none⟩) n cap) n ((stepsL l k).map .bool) ∧ Below base w wr ∧ ∀ q, q < 14 → wr.cell? ⟨w.heap.size, q, none⟩ = some (.int .i64 (pw q : Int))) (fun i _ _ => n - (intOf i).toNat)
  case atStart => exact ⟨0, by omega, rfl, Own1.out, Bel1.out, Pow1.out⟩
  case round =>
    obtain ⟨k, hk, rfl, own2, bel2, pow2⟩ := hrel
    have Own2 := Lib.hid own2
    have Bel2 := Lib.hid bel2
    have Pow2 := Lib.hid pow2
    clear own2 bel2 pow2
    obtain ⟨wo, rfl⟩ : ∃ wo : World, wo = wr := ⟨_, rfl⟩
    by_cases hlt : k + 32 < n
    · have hcell := own_bool Own2.out (i := k) (by omega)
      have hlt' : (k : Int) + 32 < n := by omega
      cases hb : (stepsL l k).getD k false
      · rw [hb] at hcell
        have Hb : Hid (stepsL l (k + 1) = stepsL l k) := Lib.hid (by rw [stepsL, hb]; rfl)
        clear hb
        go_wp2
        go_roundw
        case rel => exact ⟨k + 1, by omega, by go_num, by rw [Hb.out]; exact Own2.out, Bel2.out, Pow2.out⟩
        case measure => simp [intOf]; omega
      · rw [hb] at hcell
        have Hb : Hid (stepsL l (k + 1) = flipQ (stepsL l k) k 14) := Lib.hid (by rw [stepsL, hb]; rfl)
        clear hb
        go_wp2
        go_loopw [6, 23] (fun _ x wr => ∃ q : Nat, q ≤ 14 ∧ x = .int .i64 q ∧ wr.ownsRow base 4 1 (.slice (some ⟨g, 0, none⟩) n cap) n ((flipQ (stepsL l k) k q).map .bool) ∧ Below base w wr ∧ ∀ q, q < 14 → wr.cell? ⟨w.heap.size, q, none⟩ = some (.int .i64 (pw q : Int))) (fun _ x _ => 14 - (intOf x).toNat)
        case atStart => exact ⟨0, by omega, rfl, Own2.out, Bel2.out, Pow2.out⟩
        case round =>
          obtain ⟨q, hq, rfl, own3, bel3, pow3⟩ := hrel
          have Own3 := Lib.hid own3
          have Bel3 := Lib.hid bel3
          have Pow3 := Lib.hid pow3
          clear own3 bel3 pow3
          by_cases hlq : q < 14
          · have hpcell := Pow3.out q hlq
            have hple := pw_le q
            have Hstep : Hid (flipQ (stepsL l k) k (q + 1) = (flipQ (stepsL l k) k q).set (k + 32 - pw q) (!(flipQ (stepsL l k) k q).getD (k + 32 - pw q) false)) := Lib.hid rfl
            have hc0 := own_bool Own3.out (i := k + 32 - pw q) (by omega)
            have hf0 : wr.frozen? ⟨g, k + 32 - pw q, none⟩ = false := Own3.out.frozenAt _
            generalize pw q = P at *
            generalize (flipQ (stepsL l k) k q).getD (k + 32 - P) false = bb at *
            go_wp2
            go_roundw
            case rel =>
              refine ⟨q + 1, by omega, by go_num, ?_, ?_, ?_⟩
              · rw [Hstep.out, List.map_set]; exact (Own3.out.stored _ _).1
              · exact Bel3.out.setCell hbg _
              · intro q' hq'
                rw [World.cell?_setCell_other _ _ _ _ (by intro e; exact Hne.out (congrArg Addr.block e).symm)]
                exact Pow3.out q' hq'
            case measure => simp [intOf]; omega
          · obtain rfl : q = 14 := by omega
            go_wp2
            go_roundw
            case rel => exact ⟨k + 1, by omega, by go_num, by rw [Hb.out]; exact Own3.out, Bel3.out, Pow3.out⟩
            case measure => simp [intOf]; omega
    · obtain rfl : n = k + 32 := by omega
      have Hlen : Hid ((stepsL l k).length = k + 32) := Lib.hid (by rw [stepsL_length]; exact hl.out)
      have hnk : ¬ ((k : Int) + 32 < ((k + 32 : Nat) : Int)) := by omega
      go_wp2
      go_loop [7, 8] (fun t x => ∃ d : Nat, d ≤ 32 ∧ x = .int .i64 (31 - (d : Int)) ∧ t = .int .u32 ((outN (stepsL l k) d : Nat) : Int)) (fun _ x => (intOf x + 1).toNat)
      case atStart => exact ⟨0, by omega, rfl, rfl⟩
      case round =>
        obtain ⟨d, hd, rfl, rfl⟩ := hrel
        by_cases hdl : d < 32
        · have hx := outN_lt (stepsL l k) d
          have h2 : 2 ^ d ≤ 2 ^ 31 := Nat.pow_le_pow_right (by omega) (by omega)
          have hc0 := own_bool Own2.out (i := k + (31 - d)) (by omega)
          have Hout : Hid (outN (stepsL l k) (d + 1) = 2 * outN (stepsL l k) d + (if (stepsL l k).getD (k + (31 - d)) false then 0 else 1)) :=
            Lib.hid (by rw [outN, Hlen.out, show k + 32 - 32 + (31 - d) = k + (31 - d) by omega])
          have hx' : outN (stepsL l k) d < 2147483648 := by omega
          clear hx h2
          generalize outN (stepsL l k) d = x at *
          cases hb : (stepsL l k).getD (k + (31 - d)) false
          · rw [hb] at hc0
            rw [hb] at Hout
            clear hb
            go_wp2
            go_round
            case rel => exact ⟨d + 1, by omega, by go_num, by rw [Hout.out]; exact tail_f x⟩
            case measure => simp [intOf]; omega
          · rw [hb] at hc0
            rw [hb] at Hout
            clear hb
            go_wp2
            go_round
            case rel => exact ⟨d + 1, by omega, by go_num, by rw [Hout.out]; exact tail_t x⟩
            case measure => simp [intOf]; omega
        · obtain rfl : d = 32 := by omega
          have hneg : ¬ (0 : Int) ≤ 31 - ((32 : Nat) : Int) := by omega
          go_wp2
          go_ret
          exact ⟨rfl, Bel2.out⟩
end Go.Proofs.YtmgbmphheagdmaaGreatDoor
