/-
  The contract of the reference's Size.
-/
import Derived.Test.YtbgfkjafablfiaaRefA
namespace Go.Proofs.Ytbgfkjafablfiaa
open Go.RowKit

/-- A callee that tells whether and changes nothing. -/
@[reducible] def Tells (f : Nat) (args : Array Value) (b : Bool) : Prop := ∀ w, Calls Try.prog f args w fun e w' => e = .returned (.bool b) ∧ w' = w

def sizeB (a0 b0 t1 t2 e0 e1 f0 g0 g1 h0 t3 i0 i1 j0 k0 k1 : Bool) : Nat :=
  if a0 then 1 else if b0 && t1 then 2 else if t2 && ((e0 && e1) || f0 || (g0 && g1) || h0) then 3 else if t3 && ((i0 && i1) || j0 || (k0 && k1)) then 4 else 0

theorem sizeL_B (l : List UInt8) : sizeL l = sizeB (decide (inB l 0 0 127)) (decide (inB l 0 194 223)) (decide (tailP l 1 1)) (decide (tailP l 1 2)) (decide (inB l 0 224 224)) (decide (inB l 1 160 191)) (decide (inB l 0 225 236))
    (decide (inB l 0 237 237)) (decide (inB l 1 128 159)) (decide (inB l 0 238 239)) (decide (tailP l 1 3)) (decide (inB l 0 240 240)) (decide (inB l 1 144 191)) (decide (inB l 0 241 243)) (decide (inB l 0 244 244)) (decide (inB l 1 128 143)) := by
  unfold sizeL sizeB
  simp only [tail1, tail2, tail3, Bool.and_eq_true, Bool.or_eq_true, decide_eq_true_eq, or_assoc]

set_option maxRecDepth 100000 in
set_option maxHeartbeats 8000000 in
theorem size_bools (s : ByteArray) (a0 b0 t1 t2 e0 e1 f0 g0 g1 h0 t3 i0 i1 j0 k0 k1 : Bool) (w : World)
    (A0 : Tells 52 #[.string s, .int .i64 0, .int .u8 0, .int .u8 127] a0) (B0 : Tells 52 #[.string s, .int .i64 0, .int .u8 194, .int .u8 223] b0)
    (T1 : Tells 53 #[.string s, .int .i64 1, .int .i64 1] t1) (T2 : Tells 53 #[.string s, .int .i64 1, .int .i64 2] t2)
    (E0 : Tells 52 #[.string s, .int .i64 0, .int .u8 224, .int .u8 224] e0) (E1 : Tells 52 #[.string s, .int .i64 1, .int .u8 160, .int .u8 191] e1)
    (F0 : Tells 52 #[.string s, .int .i64 0, .int .u8 225, .int .u8 236] f0) (G0 : Tells 52 #[.string s, .int .i64 0, .int .u8 237, .int .u8 237] g0)
    (G1 : Tells 52 #[.string s, .int .i64 1, .int .u8 128, .int .u8 159] g1) (H0 : Tells 52 #[.string s, .int .i64 0, .int .u8 238, .int .u8 239] h0)
    (T3 : Tells 53 #[.string s, .int .i64 1, .int .i64 3] t3) (I0 : Tells 52 #[.string s, .int .i64 0, .int .u8 240, .int .u8 240] i0)
    (I1 : Tells 52 #[.string s, .int .i64 1, .int .u8 144, .int .u8 191] i1) (J0 : Tells 52 #[.string s, .int .i64 0, .int .u8 241, .int .u8 243] j0)
    (K0 : Tells 52 #[.string s, .int .i64 0, .int .u8 244, .int .u8 244] k0) (K1 : Tells 52 #[.string s, .int .i64 1, .int .u8 128, .int .u8 143] k1)
    (hc : (a0, b0, e0, f0, g0, h0, i0, j0, k0) ∈ [(true, false, false, false, false, false, false, false, false), (false, true, false, false, false, false, false, false, false), (false, false, true, false, false, false, false, false, false),
      (false, false, false, true, false, false, false, false, false), (false, false, false, false, true, false, false, false, false), (false, false, false, false, false, true, false, false, false), (false, false, false, false, false, false, true, false, false),
      (false, false, false, false, false, false, false, true, false), (false, false, false, false, false, false, false, false, true), (false, false, false, false, false, false, false, false, false)])
    (ht : (t1, t2, t3) ∈ [(true, true, true), (true, true, false), (true, false, false), (false, false, false)]) :
    Calls Try.prog 45 #[.string s] w fun e w' => e = .returned (.int .i64 (sizeB a0 b0 t1 t2 e0 e1 f0 g0 g1 h0 t3 i0 i1 j0 k0 k1 : Nat)) ∧ w' = w := by
  simp only [List.mem_cons, Prod.mk.injEq, List.not_mem_nil, or_false] at hc ht
  rcases hc with ⟨rfl, rfl, rfl, rfl, rfl, rfl, rfl, rfl, rfl⟩ | ⟨rfl, rfl, rfl, rfl, rfl, rfl, rfl, rfl, rfl⟩ | ⟨rfl, rfl, rfl, rfl, rfl, rfl, rfl, rfl, rfl⟩ | ⟨rfl, rfl, rfl, rfl, rfl, rfl, rfl, rfl, rfl⟩ | ⟨rfl, rfl, rfl, rfl, rfl, rfl, rfl, rfl, rfl⟩ | ⟨rfl, rfl, rfl, rfl, rfl, rfl, rfl, rfl, rfl⟩ | ⟨rfl, rfl, rfl, rfl, rfl, rfl, rfl, rfl, rfl⟩ | ⟨rfl, rfl, rfl, rfl, rfl, rfl, rfl, rfl, rfl⟩ | ⟨rfl, rfl, rfl, rfl, rfl, rfl, rfl, rfl, rfl⟩ | ⟨rfl, rfl, rfl, rfl, rfl, rfl, rfl, rfl, rfl⟩
  all_goals rcases ht with ⟨rfl, rfl, rfl⟩ | ⟨rfl, rfl, rfl⟩ | ⟨rfl, rfl, rfl⟩ | ⟨rfl, rfl, rfl⟩
  all_goals go_enter Try.func45, Try.ntmps45
  all_goals go_wp2_with (first
    | (go_at_call 52; (first | with_reducible refine (A0 _).mono ?_ | with_reducible refine (B0 _).mono ?_ | with_reducible refine (E0 _).mono ?_ | with_reducible refine (E1 _).mono ?_ | with_reducible refine (F0 _).mono ?_ | with_reducible refine (G0 _).mono ?_ | with_reducible refine (G1 _).mono ?_ | with_reducible refine (H0 _).mono ?_ | with_reducible refine (I0 _).mono ?_ | with_reducible refine (I1 _).mono ?_ | with_reducible refine (J0 _).mono ?_ | with_reducible refine (K0 _).mono ?_ | with_reducible refine (K1 _).mono ?_); rintro e w' ⟨rfl, rfl⟩)
    | (go_at_call 53; (first | with_reducible refine (T1 _).mono ?_ | with_reducible refine (T2 _).mono ?_ | with_reducible refine (T3 _).mono ?_); rintro e w' ⟨rfl, rfl⟩))
  all_goals (go_ret; refine ⟨congrArg Ending.returned (congrArg (Value.int IntKind.i64) ?_), rfl⟩; simp_all [sizeB])

theorem class_of (l : List UInt8) : (decide (inB l 0 0 127), decide (inB l 0 194 223), decide (inB l 0 224 224), decide (inB l 0 225 236), decide (inB l 0 237 237), decide (inB l 0 238 239), decide (inB l 0 240 240), decide (inB l 0 241 243), decide (inB l 0 244 244)) ∈
    [(true, false, false, false, false, false, false, false, false), (false, true, false, false, false, false, false, false, false), (false, false, true, false, false, false, false, false, false),
      (false, false, false, true, false, false, false, false, false), (false, false, false, false, true, false, false, false, false), (false, false, false, false, false, true, false, false, false), (false, false, false, false, false, false, true, false, false),
      (false, false, false, false, false, false, false, true, false), (false, false, false, false, false, false, false, false, true), (false, false, false, false, false, false, false, false, false)] := by
  simp only [List.mem_cons, Prod.mk.injEq, List.not_mem_nil, or_false, decide_eq_true_eq, decide_eq_false_iff_not]
  unfold inB
  generalize byteN l 0 = c
  by_cases h0 : 0 < l.length
  · have h : c ≤ 127 ∨ (194 ≤ c ∧ c ≤ 223) ∨ c = 224 ∨ (225 ≤ c ∧ c ≤ 236) ∨ c = 237 ∨ (238 ≤ c ∧ c ≤ 239) ∨ c = 240 ∨ (241 ≤ c ∧ c ≤ 243) ∨ c = 244 ∨ ((128 ≤ c ∧ c ≤ 193) ∨ 245 ≤ c) := by omega
    rcases h with h | h | h | h | h | h | h | h | h | h
    all_goals repeat (first | (refine Or.inl ⟨by omega, by omega, by omega, by omega, by omega, by omega, by omega, by omega, by omega⟩) | (refine ⟨by omega, by omega, by omega, by omega, by omega, by omega, by omega, by omega, by omega⟩) | apply Or.inr)
  · repeat (first | (refine Or.inl ⟨by omega, by omega, by omega, by omega, by omega, by omega, by omega, by omega, by omega⟩) | (refine ⟨by omega, by omega, by omega, by omega, by omega, by omega, by omega, by omega, by omega⟩) | apply Or.inr)
theorem tails_of (l : List UInt8) : (decide (tailP l 1 1), decide (tailP l 1 2), decide (tailP l 1 3)) ∈ [(true, true, true), (true, true, false), (true, false, false), (false, false, false)] := by
  simp only [List.mem_cons, Prod.mk.injEq, List.not_mem_nil, or_false, decide_eq_true_eq, decide_eq_false_iff_not, tail1, tail2, tail3]
  by_cases h1 : inB l 1 128 191
  · by_cases h2 : inB l 2 128 191
    · by_cases h3 : inB l 3 128 191
      · simp [h1, h2, h3]
      · simp [h1, h2, h3]
    · simp [h1, h2]
  · simp [h1]
theorem size_any (s : ByteArray) (w : World) : Calls Try.prog 45 #[.string s] w fun e w' => e = .returned (.int .i64 (sizeL (bl s) : Nat)) ∧ w' = w := by
  rw [sizeL_B]
  exact size_bools s _ _ _ _ _ _ _ _ _ _ _ _ _ _ _ _ w (fun w => within_any s 0 0 127 w) (fun w => within_any s 0 194 223 w) (fun w => tail_any s 1 1 w (by omega) (by omega)) (fun w => tail_any s 1 2 w (by omega) (by omega))
    (fun w => within_any s 0 224 224 w) (fun w => within_any s 1 160 191 w) (fun w => within_any s 0 225 236 w) (fun w => within_any s 0 237 237 w) (fun w => within_any s 1 128 159 w) (fun w => within_any s 0 238 239 w)
    (fun w => tail_any s 1 3 w (by omega) (by omega)) (fun w => within_any s 0 240 240 w) (fun w => within_any s 1 144 191 w) (fun w => within_any s 0 241 243 w) (fun w => within_any s 0 244 244 w) (fun w => within_any s 1 128 143 w)
    (class_of _) (tails_of _)
end Go.Proofs.Ytbgfkjafablfiaa
