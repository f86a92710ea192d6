/-
  The span of one key, and of the keys that begin with a text; no program is walked here.
-/
import Derived.Test.YtfjgikcbngfhmaaSC
namespace Go.Proofs.Ytfjgikcbngfhmaa

theorem ltL_snoc0 : ∀ (k p : List UInt8), ltL k (p ++ [0]) = true → ltL k p = false → k = p
  | [], [], _, _ => rfl
  | [], x :: p, _, h => by rw [nil_ltL (by simp)] at h; cases h
  | y :: m, [], h, _ => by
    rcases (ltL_cons y 0 m []).1 h with g | ⟨_, g⟩
    · have : (0 : UInt8).toNat = 0 := rfl
      omega
    · rw [ltL_nil] at g; cases g
  | y :: m, x :: p, h, h2 => by
    have n2 : ¬ (y.toNat < x.toNat ∨ (y = x ∧ ltL m p = true)) := fun g => by rw [(ltL_cons y x m p).2 g] at h2; cases h2
    rw [List.cons_append] at h
    rcases (ltL_cons y x m (p ++ [0])).1 h with g | ⟨rfl, g⟩
    · exact absurd (.inl g) n2
    · rw [ltL_snoc0 m p g (by
        cases q : ltL m p with
        | false => rfl
        | true => exact absurd (.inr ⟨rfl, q⟩) n2)]
theorem ltL_snoc (p : List UInt8) (b : UInt8) : ltL p (p ++ [b]) = true := by
  induction p with
  | nil => rfl
  | cons x p ih => exact (ltL_cons _ _ _ _).2 (.inr ⟨rfl, ih⟩)
/-- The span from a key to it and a zero byte has that key alone. -/
theorem key_has (p k : List UInt8) : hasL (p, p ++ [0]) k = decide (k = p) := by
  rw [Bool.eq_iff_iff, hasL_iff, decide_eq_true_eq]
  constructor
  · rintro ⟨h1, h2⟩
    rcases h2 with h2 | h2
    · simp at h2
    · exact ltL_snoc0 k p h2 h1
  · rintro rfl
    exact ⟨ltL_irrefl _, .inr (ltL_snoc _ _)⟩
/-- The least text behind all that begin with one; empty: there is none. -/
def upL : List UInt8 → List UInt8
  | [] => []
  | x :: l => if upL l = [] then (if x.toNat = 255 then [] else [UInt8.ofNat (x.toNat + 1)]) else x :: upL l
theorem upL_cons (x : UInt8) (l : List UInt8) : upL (x :: l) = if upL l = [] then (if x.toNat = 255 then [] else [UInt8.ofNat (x.toNat + 1)]) else x :: upL l := rfl
theorem under_iff : ∀ (p k : List UInt8), (ltL k p = false ∧ (upL p = [] ∨ ltL k (upL p) = true)) ↔ p <+: k
  | [], k => by simp [upL, ltL_nil]
  | x :: l, [] => by simp [nil_ltL]
  | x :: l, y :: m => by
    have ih := under_iff l m
    have hx := x.toNat_lt
    have hy := y.toNat_lt
    have e1 : ltL (y :: m) (x :: l) = false ↔ ¬ (y.toNat < x.toNat ∨ (y = x ∧ ltL m l = true)) := by
      rw [← ltL_cons]; simp
    rw [List.cons_prefix_cons, ← ih, e1]
    have eq : y = x ↔ y.toNat = x.toNat := UInt8.toNat_inj.symm
    have eq2 : x = y ↔ y.toNat = x.toNat := ⟨fun h => by rw [h], fun h => (UInt8.toNat_inj.1 h).symm⟩
    have neg : ltL m l = false ↔ ¬ ltL m l = true := by simp
    rw [upL_cons]
    by_cases hu : upL l = []
    · rw [if_pos hu]
      by_cases h255 : x.toNat = 255
      · rw [if_pos h255, eq, eq2, neg]
        simp only [hu, true_or, and_true]
        constructor
        · intro h
          have h1 : ¬ y.toNat < x.toNat := fun g => h (.inl g)
          have h2 : y.toNat = x.toNat := by omega
          exact ⟨h2, fun g => h (.inr ⟨h2, g⟩)⟩
        · rintro ⟨h1, h2⟩
          rintro (h | ⟨_, h⟩)
          · omega
          · exact h2 h
      · rw [if_neg h255, ltL_cons, eq, eq2, neg, ltL_nil, UInt8.toNat_ofNat', Nat.mod_eq_of_lt (by omega)]
        simp only [hu, true_or, and_true, List.cons_ne_nil, false_or, Bool.false_eq_true, and_false, or_false]
        constructor
        · rintro ⟨h1, h2⟩
          have : y.toNat = x.toNat := by omega
          exact ⟨this, fun h => h1 (.inr ⟨this, h⟩)⟩
        · rintro ⟨h1, h2⟩
          refine ⟨?_, by omega⟩
          rintro (h | ⟨_, h⟩)
          · omega
          · exact h2 h
    · rw [if_neg hu, ltL_cons, eq, eq2, neg]
      simp only [hu, List.cons_ne_nil, false_or]
      constructor
      · rintro ⟨h1, h2⟩
        rcases h2 with h2 | ⟨h2, h3⟩
        · omega
        · exact ⟨h2, fun h => h1 (.inr ⟨h2, h⟩), h3⟩
      · rintro ⟨h1, h2, h3⟩
        refine ⟨?_, .inr ⟨h1, h3⟩⟩
        rintro (h | ⟨_, h⟩)
        · omega
        · exact h2 h
/-- The span under a text has just the keys that begin with it. -/
theorem under_has (p k : List UInt8) : hasL (p, upL p) k = true ↔ p <+: k := by
  rw [hasL_iff]; exact under_iff p k
theorem up_after (p : List UInt8) : upL p = [] ∨ ltL p (upL p) = true := ((under_iff p p).2 (List.prefix_refl p)).2
end Go.Proofs.Ytfjgikcbngfhmaa
