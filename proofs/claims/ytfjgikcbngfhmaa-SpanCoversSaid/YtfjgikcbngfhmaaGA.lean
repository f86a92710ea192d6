/-
  The program's own Right, Has, Key, sooner, firstEnd, Inside.
-/
import Derived.Test.YtfjgikcbngfhmaaSE
namespace Go.Proofs.Ytfjgikcbngfhmaa
open Go.RowKit

theorem validR_raw (a b : List UInt8) (h : ((bs a).size : Int) ≤ 65) (g : ((bs b).size : Int) ≤ 65) : validL (a, b) = ((bs b).toList.isEmpty || Op.bytesLess (bs a).toList (bs b).toList) := by
  rw [bs_size] at h g
  rw [less_bs, bs_toList]
  unfold validL
  rw [decide_eq_true (by simp only; omega), Bool.true_and]
theorem validR_long (a b : List UInt8) (h : ¬ ((bs a).size : Int) ≤ 65 ∨ ¬ ((bs b).size : Int) ≤ 65) : validL (a, b) = false := by
  apply validL_long
  omega

set_option maxRecDepth 100000 in
set_option maxHeartbeats 1000000 in
theorem right_any (s : Sp) (w : World) : Calls Try.prog 12 #[spV s] w fun e w' => e = .returned (.bool (validL s)) ∧ Below w.heap.size w w' := by
  obtain ⟨a, b⟩ := s
  unfold spV
  by_cases h1 : ((bs a).size : Int) ≤ 65
  · by_cases h2 : ((bs b).size : Int) ≤ 65
    · have Hv := Lib.hid (validR_raw a b h1 h2)
      cases h3 : (bs b).toList.isEmpty with
      | true =>
        have Hw : Hid (validL (a, b) = true) := Lib.hid (by rw [Hv.out, h3]; rfl)
        go_enter Try.func12, Try.ntmps12
        go_wp2
        go_ret
        exact ⟨by rw [Hw.out]; rfl, (Below.refl _ _).alloc (Nat.le_refl _) _⟩
      | false =>
        have Hw : Hid (validL (a, b) = Op.bytesLess (bs a).toList (bs b).toList) := Lib.hid (by rw [Hv.out, h3]; rfl)
        go_enter Try.func12, Try.ntmps12
        go_wp2
        go_ret
        exact ⟨by rw [Hw.out]; rfl, (Below.refl _ _).alloc (Nat.le_refl _) _⟩
    · have Hv := Lib.hid (validR_long a b (.inr h2))
      go_enter Try.func12, Try.ntmps12
      go_wp2
      go_ret
      exact ⟨by rw [Hv.out]; rfl, (Below.refl _ _).alloc (Nat.le_refl _) _⟩
  · have Hv := Lib.hid (validR_long a b (.inl h1))
    go_enter Try.func12, Try.ntmps12
    go_wp2
    go_ret
    exact ⟨by rw [Hv.out]; rfl, (Below.refl _ _).alloc (Nat.le_refl _) _⟩

theorem hasR_raw (a b k : List UInt8) : hasL (a, b) k = ((Op.bytesLess (bs a).toList (bs k).toList || (bs a).toList == (bs k).toList) && ((bs b).toList.isEmpty || Op.bytesLess (bs k).toList (bs b).toList)) := by
  rw [less_bs, less_bs, bs_toList, bs_toList, bs_toList]
  unfold hasL
  simp only
  rw [ltL_flip k a]
  cases h : ltL a k with
  | true => simp
  | false =>
    by_cases e : a = k
    · subst e; simp
    · simp

set_option maxRecDepth 100000 in
set_option maxHeartbeats 1000000 in
theorem has_any (s : Sp) (k : List UInt8) (w : World) : Calls Try.prog 14 #[spV s, .string (bs k)] w fun e w' => e = .returned (.bool (hasL s k)) ∧ Below w.heap.size w w' := by
  obtain ⟨a, b⟩ := s
  unfold spV
  have Hv := Lib.hid (hasR_raw a b k)
  cases hc : Op.bytesLess (bs a).toList (bs k).toList with
  | true =>
    rw [hc] at Hv
    cases h3 : (bs b).toList.isEmpty with
    | true =>
      have Hw : Hid (hasL (a, b) k = true) := Lib.hid (by rw [Hv.out, h3]; rfl)
      go_enter Try.func14, Try.ntmps14
      go_wp2
      go_ret
      exact ⟨by rw [Hw.out]; rfl, (Below.refl _ _).alloc (Nat.le_refl _) _⟩
    | false =>
      have Hw : Hid (hasL (a, b) k = Op.bytesLess (bs k).toList (bs b).toList) := Lib.hid (by rw [Hv.out, h3]; rfl)
      go_enter Try.func14, Try.ntmps14
      go_wp2
      go_ret
      exact ⟨by rw [Hw.out]; rfl, (Below.refl _ _).alloc (Nat.le_refl _) _⟩
  | false =>
    rw [hc] at Hv
    cases he : ((bs a).toList == (bs k).toList) with
    | false =>
      rw [he] at Hv
      have Hw : Hid (hasL (a, b) k = false) := Lib.hid (by rw [Hv.out]; rfl)
      go_enter Try.func14, Try.ntmps14
      go_wp2
      go_ret
      exact ⟨by rw [Hw.out]; rfl, (Below.refl _ _).alloc (Nat.le_refl _) _⟩
    | true =>
      rw [he] at Hv
      cases h3 : (bs b).toList.isEmpty with
      | true =>
        have Hw : Hid (hasL (a, b) k = true) := Lib.hid (by rw [Hv.out, h3]; rfl)
        go_enter Try.func14, Try.ntmps14
        go_wp2
        go_ret
        exact ⟨by rw [Hw.out]; rfl, (Below.refl _ _).alloc (Nat.le_refl _) _⟩
      | false =>
        have Hw : Hid (hasL (a, b) k = Op.bytesLess (bs k).toList (bs b).toList) := Lib.hid (by rw [Hv.out, h3]; rfl)
        go_enter Try.func14, Try.ntmps14
        go_wp2
        go_ret
        exact ⟨by rw [Hw.out]; rfl, (Below.refl _ _).alloc (Nat.le_refl _) _⟩

/-- Does a span end sooner at a than at b? -/
def soonL (a b : List UInt8) : Bool := !a.isEmpty && (b.isEmpty || ltL a b)
theorem soonL_raw (a b : List UInt8) : soonL a b = (!(bs a).toList.isEmpty && ((bs b).toList.isEmpty || Op.bytesLess (bs a).toList (bs b).toList)) := by
  rw [less_bs, bs_toList, bs_toList]
  rfl
attribute [irreducible] soonL

set_option maxRecDepth 100000 in
set_option maxHeartbeats 1000000 in
theorem sooner_any (a b : List UInt8) (w : World) : Calls Try.prog 28 #[.string (bs a), .string (bs b)] w fun e w' => e = .returned (.bool (soonL a b)) ∧ w' = w := by
  have Hv := Lib.hid (soonL_raw a b)
  cases h1 : (bs a).toList.isEmpty with
  | true =>
    have Hw : Hid (soonL a b = false) := Lib.hid (by rw [Hv.out, h1]; rfl)
    go_enter Try.func28, Try.ntmps28
    go_wp2
    go_ret
    exact ⟨by rw [Hw.out]; rfl, rfl⟩
  | false =>
    cases h2 : (bs b).toList.isEmpty with
    | true =>
      have Hw : Hid (soonL a b = true) := Lib.hid (by rw [Hv.out, h1, h2]; rfl)
      go_enter Try.func28, Try.ntmps28
      go_wp2
      go_ret
      exact ⟨by rw [Hw.out]; rfl, rfl⟩
    | false =>
      have Hw : Hid (soonL a b = Op.bytesLess (bs a).toList (bs b).toList) := Lib.hid (by rw [Hv.out, h1, h2]; rfl)
      go_enter Try.func28, Try.ntmps28
      go_wp2
      go_ret
      exact ⟨by rw [Hw.out]; rfl, rfl⟩

set_option maxRecDepth 100000 in
set_option maxHeartbeats 1000000 in
theorem firstEnd_any (a b : List UInt8) (w : World) : Calls Try.prog 40 #[.string (bs a), .string (bs b)] w fun e w' => e = .returned (.string (bs (if soonL a b = true then a else b))) ∧ w' = w := by
  have HS := Lib.hid (fun W => sooner_any a b W)
  cases h : soonL a b with
  | true =>
    rw [h] at HS
    rw [if_pos rfl]
    go_enter Try.func40, Try.ntmps40
    go_wp2_with (go_at_call 28; refine (HS.out _).mono ?_; rintro e w' ⟨rfl, rfl⟩)
    go_ret
    exact ⟨rfl, rfl⟩
  | false =>
    rw [h] at HS
    rw [if_neg (by simp)]
    go_enter Try.func40, Try.ntmps40
    go_wp2_with (go_at_call 28; refine (HS.out _).mono ?_; rintro e w' ⟨rfl, rfl⟩)
    go_ret
    exact ⟨rfl, rfl⟩
end Go.Proofs.Ytfjgikcbngfhmaa
