/-
  A text as its runes and its bytes that belong to none; counts, names and texts for eyes as functions on lists; no program is walked here.
-/
import Derived.Test.YtbgfkjafablfiaaUA
namespace Go.Proofs.Ytbgfkjafablfiaa

/-- The runes of a text, and the bytes with which none begins, one by one. -/
def piecesF : Nat → List UInt8 → List (List UInt8 × Bool)
  | 0, _ => []
  | f + 1, l => if l = [] then [] else if sizeL l = 0 then (l.take 1, false) :: piecesF f (l.drop 1) else (l.take (sizeL l), true) :: piecesF f (l.drop (sizeL l))
def piecesL (l : List UInt8) : List (List UInt8 × Bool) := piecesF l.length l
theorem piecesF_more : ∀ (f g : Nat) (l : List UInt8), l.length ≤ f → l.length ≤ g → piecesF f l = piecesF g l
  | 0, g, l, hf, _ => by
    have : l = [] := List.eq_nil_of_length_eq_zero (by omega)
    subst this
    cases g <;> simp [piecesF]
  | f + 1, 0, l, _, hg => by
    have : l = [] := List.eq_nil_of_length_eq_zero (by omega)
    subst this
    simp [piecesF]
  | f + 1, g + 1, l, hf, hg => by
    unfold piecesF
    by_cases h : l = []
    · rw [if_pos h, if_pos h]
    · rw [if_neg h, if_neg h]
      have hl := List.length_pos_iff.2 h
      by_cases hs : sizeL l = 0
      · rw [if_pos hs, if_pos hs, piecesF_more f g (l.drop 1) (by rw [List.length_drop]; omega) (by rw [List.length_drop]; omega)]
      · rw [if_neg hs, if_neg hs, piecesF_more f g (l.drop (sizeL l)) (by rw [List.length_drop]; omega) (by rw [List.length_drop]; omega)]
theorem pieces_nil : piecesL [] = [] := rfl
theorem pieces_step (l : List UInt8) (h : l ≠ []) : piecesL l = if sizeL l = 0 then (l.take 1, false) :: piecesL (l.drop 1) else (l.take (sizeL l), true) :: piecesL (l.drop (sizeL l)) := by
  have hl := List.length_pos_iff.2 h
  obtain ⟨n, hn⟩ : ∃ n, l.length = n + 1 := ⟨l.length - 1, by omega⟩
  unfold piecesL
  rw [hn, piecesF, if_neg h]
  by_cases hs : sizeL l = 0
  · rw [if_pos hs, if_pos hs, piecesF_more n _ (l.drop 1) (by rw [List.length_drop]; omega) (Nat.le_refl _)]
  · rw [if_neg hs, if_neg hs, piecesF_more n _ (l.drop (sizeL l)) (by rw [List.length_drop]; omega) (Nat.le_refl _)]
/-- A rune by itself. -/
def Whole (p : List UInt8) : Prop := 0 < sizeL p ∧ sizeL p = p.length
theorem whole_take (l : List UInt8) (h : sizeL l ≠ 0) : Whole (l.take (sizeL l)) := by
  have := sizeL_take l (by omega)
  have hl := sizeL_le l
  refine ⟨by omega, by rw [this, List.length_take]; omega⟩
theorem pieces_whole (p r : List UInt8) (h : Whole p) : piecesL (p ++ r) = (p, true) :: piecesL r := by
  have hne : p ++ r ≠ [] := fun e => by
    have := List.append_eq_nil_iff.1 e
    have h1 := h.1
    rw [this.1, sizeL_nil] at h1
    omega
  rw [pieces_step _ hne, sizeL_app p r h.1, if_neg (by have := h.1; omega), h.2, List.take_left, List.drop_left]
/-- Induction over the pieces. -/
theorem piece_ind {q : List UInt8 → Prop} (h0 : q []) (h1 : ∀ b r, sizeL (b :: r) = 0 → q r → q (b :: r)) (h2 : ∀ p r, Whole p → q r → q (p ++ r)) (l : List UInt8) : q l := by
  have key : ∀ n (l : List UInt8), l.length ≤ n → q l := by
    intro n
    induction n with
    | zero =>
      intro l hl
      have : l = [] := List.eq_nil_of_length_eq_zero (by omega)
      rw [this]; exact h0
    | succ n ih =>
      intro l hl
      cases l with
      | nil => exact h0
      | cons b r =>
        by_cases hs : sizeL (b :: r) = 0
        · exact h1 b r hs (ih r (by simp at hl; omega))
        · have := h2 ((b :: r).take (sizeL (b :: r))) ((b :: r).drop (sizeL (b :: r))) (whole_take _ hs) (ih _ (by rw [List.length_drop]; omega))
          rwa [List.take_append_drop] at this
  exact key l.length l (Nat.le_refl _)
theorem pieces_bad (b : UInt8) (r : List UInt8) (h : sizeL (b :: r) = 0) : piecesL (b :: r) = ([b], false) :: piecesL r := by
  rw [pieces_step _ (by simp), if_pos h]; rfl
theorem pieces_flat (l : List UInt8) : (piecesL l).flatMap (·.1) = l := by
  induction l using piece_ind with
  | h0 => rfl
  | h1 b r hs ih => rw [pieces_bad b r hs, List.flatMap_cons, ih]; rfl
  | h2 p r hp ih => rw [pieces_whole p r hp, List.flatMap_cons, ih]
theorem pieces_each (l : List UInt8) : ∀ q ∈ piecesL l, (q.2 = true → Whole q.1) ∧ (q.2 = false → ∃ b, q.1 = [b]) := by
  induction l using piece_ind with
  | h0 => simp [pieces_nil]
  | h1 b r hs ih =>
    rw [pieces_bad b r hs]
    intro q hq
    rcases List.mem_cons.1 hq with rfl | hq
    · exact ⟨fun h => (by cases h), fun _ => ⟨b, rfl⟩⟩
    · exact ih q hq
  | h2 p r hp ih =>
    rw [pieces_whole p r hp]
    intro q hq
    rcases List.mem_cons.1 hq with rfl | hq
    · exact ⟨fun _ => hp, fun h => (by cases h)⟩
    · exact ih q hq
/-- Is it UTF-8? -/
def AllV (l : List UInt8) : Prop := ∀ q ∈ piecesL l, q.2 = true
theorem allV_bad (b : UInt8) (r : List UInt8) (h : sizeL (b :: r) = 0) : ¬ AllV (b :: r) := fun hv => by
  have := hv ([b], false) (by rw [pieces_bad b r h]; simp)
  cases this
theorem allV_whole (p r : List UInt8) (hp : Whole p) : AllV (p ++ r) ↔ AllV r := by
  unfold AllV
  rw [pieces_whole p r hp]
  constructor
  · exact fun h q hq => h q (List.mem_cons.2 (.inr hq))
  · intro h q hq
    rcases List.mem_cons.1 hq with rfl | hq
    · rfl
    · exact h q hq
theorem pieces_append (s t : List UInt8) : AllV s → piecesL (s ++ t) = piecesL s ++ piecesL t := by
  induction s using piece_ind with
  | h0 => intro _; simp [pieces_nil]
  | h1 b r hs ih => exact fun h => absurd h (allV_bad b r hs)
  | h2 p r hp ih =>
    intro h
    rw [List.append_assoc, pieces_whole p _ hp, pieces_whole p r hp, ih ((allV_whole p r hp).1 h)]; rfl
theorem pieces_list : ∀ (ps : List (List UInt8)), (∀ p ∈ ps, Whole p) → piecesL ps.flatten = ps.map fun p => (p, true)
  | [], _ => rfl
  | p :: ps, h => by
    rw [List.flatten_cons, pieces_whole p _ (h p (by simp)), pieces_list ps (fun q hq => h q (by simp [hq]))]; rfl

/-- How many runes; -1: it isn't UTF-8. -/
def countL (l : List UInt8) : Int := if (piecesL l).all (·.2) = true then (piecesL l).length else -1
theorem all_iff (l : List UInt8) : (piecesL l).all (·.2) = true ↔ AllV l := by
  unfold AllV; rw [List.all_eq_true]
theorem countL_neg (l : List UInt8) : countL l < 0 ↔ ¬ AllV l := by
  unfold countL
  rw [← all_iff]
  split
  · rename_i h; simp [h]
  · rename_i h; simp [h]
theorem countL_app (s t : List UInt8) (hs : AllV s) (ht : AllV t) : countL (s ++ t) = countL s + countL t := by
  have h := pieces_append s t hs
  unfold countL
  rw [if_pos ((all_iff s).2 hs), if_pos ((all_iff t).2 ht), h, if_pos (by
    rw [List.all_append, (all_iff s).2 hs, (all_iff t).2 ht]; rfl), List.length_append]
  omega

/-- Does a rune, told by its bytes, stand for itself? -/
def selfL (r : List UInt8) : Bool :=
  if r.length = 1 then decide (32 ≤ byteN r 0 ∧ byteN r 0 ≤ 126 ∧ byteN r 0 ≠ 92)
  else if r.length = 2 ∧ byteN r 0 = 194 then decide (161 ≤ byteN r 1)
  else decide (1 < r.length)
/-- The same, told by its code. -/
theorem selfL_code (p : List UInt8) (h : Whole p) : selfL p = decide ((32 ≤ codeL p ∧ codeL p ≤ 126 ∧ codeL p ≠ 92) ∨ 161 ≤ codeL p) := by
  obtain ⟨h0, hl⟩ := h
  unfold selfL codeL
  rcases sizeL_spec p with ⟨g, c⟩ | ⟨g, c⟩ | ⟨g, c⟩ | ⟨g, c⟩ | ⟨g, _⟩
  · rw [if_pos (by omega), if_pos g]
    congr 1
    apply propext
    omega
  · rw [if_neg (by omega), if_neg (show ¬ sizeL p = 1 by omega), if_pos g]
    unfold Two at c
    by_cases hb : byteN p 0 = 194
    · rw [if_pos ⟨by omega, hb⟩]
      congr 1
      apply propext
      omega
    · rw [if_neg (by omega), decide_eq_true (by omega), decide_eq_true (by omega)]
  · unfold Three at c
    rw [if_neg (by omega), if_neg (by omega), if_neg (by omega), if_neg (by omega), if_pos g, decide_eq_true (by omega), decide_eq_true (by omega)]
  · unfold Four at c
    rw [if_neg (by omega), if_neg (by omega), if_neg (by omega), if_neg (by omega), if_neg (by omega), decide_eq_true (by omega), decide_eq_true (by omega)]
  · omega
end Go.Proofs.Ytbgfkjafablfiaa
