/-
  Spans in memory; the contracts of the reference's Right, Has and any.
-/
import Derived.Test.YtfjgikcbngfhmaaSD
import Derived.Lib.Strings
import Derived.Lib.Slices
import Derived.Lib.Small
import Derived.Lib.Walk
namespace Go.Proofs.Ytfjgikcbngfhmaa
open Go.RowKit

/-- A span as a value, and as cells. -/
def spV (s : Sp) : Value := .agg #[.string (bs s.1), .string (bs s.2)]
theorem ltL_flip (a b : List UInt8) : ltL a b = (!(ltL b a) && !(b == a)) := by
  rcases ltL_tri a b with h | rfl | h
  · rw [h, ltL_asymm h]
    have : b ≠ a := fun e => by rw [e, ltL_irrefl] at h; cases h
    simp [this]
  · rw [ltL_irrefl]; simp
  · rw [h, ltL_asymm h]; rfl
theorem less_bs (a b : List UInt8) : Op.bytesLess (bs a).toList (bs b).toList = ltL a b := by rw [bs_toList, bs_toList, ltL_eq]
theorem validL_raw (a b : List UInt8) (h : ¬ (65 : Int) < ((bs a).size : Int)) (g : ¬ (65 : Int) < ((bs b).size : Int)) : validL (a, b) = ((bs b).toList.isEmpty || !Op.bytesLess (bs b).toList (bs a).toList && !(bs b).toList == (bs a).toList) := by
  rw [bs_size] at h g
  rw [less_bs, bs_toList, bs_toList, ← ltL_flip]
  unfold validL
  rw [decide_eq_true (by simp only; omega), Bool.true_and]
theorem validL_long (a b : List UInt8) (h : (65 : Int) < ((bs a).size : Int) ∨ (65 : Int) < ((bs b).size : Int)) : validL (a, b) = false := by
  rw [bs_size, bs_size] at h
  unfold validL
  rw [decide_eq_false (by simp only; omega), Bool.false_and]

set_option maxRecDepth 100000 in
set_option maxHeartbeats 1000000 in
theorem refvalid_any (s : Sp) (w : World) : Calls Try.prog 13 #[spV s] w fun e w' => e = .returned (.bool (validL s)) ∧ Below w.heap.size w w' := by
  obtain ⟨a, b⟩ := s
  unfold spV
  by_cases h1 : (65 : Int) < ((bs a).size : Int)
  · have Hv := Lib.hid (validL_long a b (.inl h1))
    go_enter Try.func13, Try.ntmps13
    go_wp2
    go_ret
    exact ⟨by rw [Hv.out]; rfl, (Below.refl _ _).alloc (Nat.le_refl _) _⟩
  · by_cases h2 : (65 : Int) < ((bs b).size : Int)
    · have Hv := Lib.hid (validL_long a b (.inr h2))
      go_enter Try.func13, Try.ntmps13
      go_wp2
      go_ret
      exact ⟨by rw [Hv.out]; rfl, (Below.refl _ _).alloc (Nat.le_refl _) _⟩
    · have Hv := Lib.hid (validL_raw a b h1 h2)
      by_cases h3 : (bs b).toList = []
      · have Hw : Hid (validL (a, b) = true) := Lib.hid (by rw [Hv.out, h3]; rfl)
        go_enter Try.func13, Try.ntmps13
        go_wp2
        go_ret
        exact ⟨by rw [Hw.out]; rfl, (Below.refl _ _).alloc (Nat.le_refl _) _⟩
      · go_enter Try.func13, Try.ntmps13
        go_wp2
        go_ret
        exact ⟨by rw [Hv.out]; rfl, (Below.refl _ _).alloc (Nat.le_refl _) _⟩

theorem hasL_raw (a b k : List UInt8) (h : (bs b).toList.isEmpty = false) : hasL (a, b) k = (!Op.bytesLess (bs k).toList (bs a).toList && Op.bytesLess (bs k).toList (bs b).toList) := by
  rw [bs_toList] at h
  rw [less_bs, less_bs]
  unfold hasL
  cases b with
  | nil => cases h
  | cons x b => rfl
theorem hasL_open (a b k : List UInt8) (h : (bs b).toList.isEmpty = true) : hasL (a, b) k = !Op.bytesLess (bs k).toList (bs a).toList := by
  rw [bs_toList, List.isEmpty_iff] at h
  subst h
  rw [less_bs]
  unfold hasL
  simp

set_option maxRecDepth 100000 in
set_option maxHeartbeats 1000000 in
theorem refhas_any (s : Sp) (k : List UInt8) (w : World) : Calls Try.prog 15 #[spV s, .string (bs k)] w fun e w' => e = .returned (.bool (hasL s k)) ∧ Below w.heap.size w w' := by
  obtain ⟨a, b⟩ := s
  unfold spV
  cases h3 : (bs b).toList.isEmpty with
  | true =>
    have Hv := Lib.hid (hasL_open a b k h3)
    go_enter Try.func15, Try.ntmps15
    go_wp2
    go_ret
    exact ⟨by rw [Hv.out]; rfl, (Below.refl _ _).alloc (Nat.le_refl _) _⟩
  | false =>
    have Hv := Lib.hid (hasL_raw a b k h3)
    cases hc : Op.bytesLess (bs k).toList (bs a).toList with
    | true =>
      rw [hc] at Hv
      go_enter Try.func15, Try.ntmps15
      go_wp2
      go_ret
      exact ⟨by rw [Hv.out]; rfl, (Below.refl _ _).alloc (Nat.le_refl _) _⟩
    | false =>
      rw [hc] at Hv
      go_enter Try.func15, Try.ntmps15
      go_wp2
      go_ret
      exact ⟨by rw [Hv.out]; rfl, (Below.refl _ _).alloc (Nat.le_refl _) _⟩

/-- These cells lie from an address on. -/
def RowAt (w : World) (A : Option Addr) (cs : List Value) : Prop :=
  ∀ j v, cs[j]? = some v → ∃ b off, A = some (⟨b, off, none⟩ : Addr) ∧ b < w.heap.size ∧ w.cell? ⟨b, off + j, none⟩ = some v
theorem RowAt.below {w w' : World} {A : Option Addr} {cs : List Value} {B : Nat} (h : RowAt w A cs) (hb : Below B w w') (hB : w.heap.size ≤ B) : RowAt w' A cs := fun j v hv => by
  obtain ⟨b, off, hA, hl, h0⟩ := h j v hv
  exact ⟨b, off, hA, Nat.lt_of_lt_of_le hl hb.size, by rw [hb.cell (by show b < B; omega)]; exact h0⟩
/-- Spans as cells. -/
def spC (l : List Sp) : List Value := l.flatMap fun s => [.string (bs s.1), .string (bs s.2)]
theorem spC_length (l : List Sp) : (spC l).length = l.length * 2 := by
  induction l with
  | nil => rfl
  | cons s l ih => simp only [spC, List.flatMap_cons, List.length_append, List.length_cons, List.length_nil] at *; omega
theorem spC_cons (s : Sp) (l : List Sp) : spC (s :: l) = .string (bs s.1) :: .string (bs s.2) :: spC l := rfl
theorem spC_append (l m : List Sp) : spC (l ++ m) = spC l ++ spC m := by unfold spC; rw [List.flatMap_append]
theorem spC_at : ∀ (l : List Sp) (i : Nat) (s : Sp), l[i]? = some s → (spC l)[i * 2]? = some (.string (bs s.1)) ∧ (spC l)[i * 2 + 1]? = some (.string (bs s.2))
  | [], i, s, h => by simp at h
  | t :: l, 0, s, h => by
    obtain rfl : t = s := by simpa using h
    exact ⟨rfl, rfl⟩
  | t :: l, i + 1, s, h => by
    have ih := spC_at l i s (by simpa using h)
    rw [spC_cons]
    refine ⟨?_, ?_⟩
    · rw [show (i + 1) * 2 = i * 2 + 1 + 1 by omega, List.getElem?_cons_succ, List.getElem?_cons_succ]; exact ih.1
    · rw [show (i + 1) * 2 + 1 = i * 2 + 1 + 1 + 1 by omega, List.getElem?_cons_succ, List.getElem?_cons_succ]; exact ih.2
/-- Where a span of a row lies. -/
theorem row_span {w : World} {A : Option Addr} {l : List Sp} (h : RowAt w A (spC l)) (i : Nat) (s : Sp) (hs : l[i]? = some s) :
    ∃ b off, A = some (⟨b, off, none⟩ : Addr) ∧ b < w.heap.size ∧ w.cell? ⟨b, off + i * 2, none⟩ = some (.string (bs s.1)) ∧ w.cell? ⟨b, off + i * 2 + 1, none⟩ = some (.string (bs s.2)) := by
  have ⟨h1, h2⟩ := spC_at l i s hs
  obtain ⟨b, off, hA, hl, c0⟩ := h _ _ h1
  obtain ⟨b', off', hA', _, c1⟩ := h _ _ h2
  rw [hA] at hA'
  injection hA' with hA'
  injection hA' with e1 e2
  subst e1
  subst e2
  exact ⟨b, off, hA, hl, c0, by rw [← Nat.add_assoc] at c1; exact c1⟩

theorem anyL_drop (l : List Sp) (i : Nat) (s : Sp) (k : List UInt8) (h : l[i]? = some s) : anyL (l.drop i) k = ((validL s && hasL s k) || anyL (l.drop (i + 1)) k) := by
  obtain ⟨hl, rfl⟩ := List.getElem?_eq_some_iff.1 h
  rw [List.drop_eq_getElem_cons hl]
  rfl
theorem anyL_nil (k : List UInt8) : anyL [] k = false := rfl

set_option maxRecDepth 100000 in
set_option maxHeartbeats 1000000 in
theorem refany_any (l : List Sp) (A : Option Addr) (n cap : Nat) (k : List UInt8) (w : World) (hn : l.length = n) (hr : RowAt w A (spC l)) (hn2 : n ≤ 1000000) :
    Calls Try.prog 30 #[.slice A n cap, .string (bs k)] w fun e w' => e = .returned (.bool (anyL l k)) ∧ Below w.heap.size w w' := by
  have Hr := Lib.hid hr
  have Hn := Lib.hid hn
  clear hr hn
  go_enter Try.func30, Try.ntmps30
  go_wp2
  go_loopw [5] (fun iv wr => ∃ i : Nat, i ≤ n ∧ iv = .int .i64 i ∧ Below w.heap.size w wr ∧ anyL l k = anyL (l.drop i) k) (fun iv _ => n - (intOf iv).toNat)
  case atStart => exact ⟨0, by omega, rfl, Below.refl _ _, by rw [List.drop_zero]⟩
  case round =>
    obtain ⟨i, hi, rfl, hb, han⟩ := hrel
    have Hb := Lib.hid hb
    have Han := Lib.hid han
    clear hb han
    by_cases hlt : i < n
    · have hlt' : (i : Int) < (n : Int) := by omega
      obtain ⟨s, hs⟩ : ∃ s, l[i]? = some s := ⟨_, List.getElem?_eq_getElem (by rw [Hn.out]; exact hlt)⟩
      obtain ⟨b, off, rfl, hbl, c0, c1⟩ := row_span Hr.out i s hs
      have d0 := (Hb.out.cell (p := ⟨b, off + i * 2, none⟩) hbl).trans c0
      have d1 := (Hb.out.cell (p := ⟨b, off + i * 2 + 1, none⟩) hbl).trans c1
      have Hst := Lib.hid (anyL_drop l i s k hs)
      have Hv := Lib.hid (refvalid_any s)
      have Hh := Lib.hid (refhas_any s k)
      unfold spV at Hv Hh
      clear c0 c1 hs
      cases hv : validL s with
      | false =>
        rw [hv] at Hv
        have Hnx : Hid (anyL l k = anyL (l.drop (i + 1)) k) := Lib.hid (by rw [Han.out, Hst.out, hv]; rfl)
        clear Hst hv
        go_wp2_with (go_at_call 13; refine (Hv.out _).mono ?_; rintro e w1 ⟨rfl, hb1⟩; replace hb1 := Lib.hid hb1)
        go_roundw
        case rel => exact ⟨i + 1, by omega, by go_num, Hb.out.trans (hb1.out.mono Hb.out.size), Hnx.out⟩
        case measure => simp [intOf]; omega
      | true =>
        rw [hv] at Hv
        have hbw : b < wr.heap.size := Nat.lt_of_lt_of_le hbl Hb.out.size
        cases hh : hasL s k with
        | false =>
          rw [hh] at Hh
          have Hnx : Hid (anyL l k = anyL (l.drop (i + 1)) k) := Lib.hid (by rw [Han.out, Hst.out, hv, hh]; rfl)
          clear Hst hv hh
          go_wp2_with (first
            | (go_at_call 13; refine (Hv.out _).mono ?_; rintro e w1 ⟨rfl, hb1⟩; have e0 := (hb1.cell (p := ⟨b, off + i * 2, none⟩) hbw).trans d0; have e1 := (hb1.cell (p := ⟨b, off + i * 2 + 1, none⟩) hbw).trans d1; replace hb1 := Lib.hid (Hb.out.trans (hb1.mono Hb.out.size)))
            | (go_at_call 15; refine (Hh.out _).mono ?_; rintro e w2 ⟨rfl, hb2⟩; replace hb2 := Lib.hid (hb1.out.trans (hb2.mono hb1.out.size))))
          go_roundw
          case rel => exact ⟨i + 1, by omega, by go_num, hb2.out, Hnx.out⟩
          case measure => simp [intOf]; omega
        | true =>
          rw [hh] at Hh
          have Hnx : Hid (anyL l k = true) := Lib.hid (by rw [Han.out, Hst.out, hv, hh]; rfl)
          clear Hst hv hh
          go_wp2_with (first
            | (go_at_call 13; refine (Hv.out _).mono ?_; rintro e w1 ⟨rfl, hb1⟩; have e0 := (hb1.cell (p := ⟨b, off + i * 2, none⟩) hbw).trans d0; have e1 := (hb1.cell (p := ⟨b, off + i * 2 + 1, none⟩) hbw).trans d1; replace hb1 := Lib.hid (Hb.out.trans (hb1.mono Hb.out.size)))
            | (go_at_call 15; refine (Hh.out _).mono ?_; rintro e w2 ⟨rfl, hb2⟩; replace hb2 := Lib.hid (hb1.out.trans (hb2.mono hb1.out.size))))
          go_ret
          exact ⟨by rw [Hnx.out]; rfl, hb2.out⟩
    · have hlt' : ¬ (i : Int) < (n : Int) := by omega
      have Hnx : Hid (anyL l k = false) := Lib.hid (by rw [Han.out, List.drop_eq_nil_of_le (by rw [Hn.out]; omega), anyL_nil])
      go_wp2
      go_ret
      exact ⟨by rw [Hnx.out]; rfl, Hb.out⟩
end Go.Proofs.Ytfjgikcbngfhmaa
