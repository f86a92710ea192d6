/-
  The order of texts; lists of spans that rise and stand apart are told by their keys alone; no program is walked here.
-/
import Derived.Test.YtbgfkjafablfiaaStr
namespace Go.Proofs.Ytbgfkjafablfiaa

/-- A text before another one. -/
def ltL (a b : List UInt8) : Bool := Op.bytesLess a b
theorem ltL_eq (a b : List UInt8) : Op.bytesLess a b = ltL a b := rfl
theorem ltL_nil (a : List UInt8) : ltL a [] = false := by cases a <;> rfl
theorem nil_ltL {a : List UInt8} (h : a ≠ []) : ltL [] a = true := by cases a with | nil => exact absurd rfl h | cons x a => rfl
theorem ltL_cons (x y : UInt8) (a b : List UInt8) : ltL (x :: a) (y :: b) = true ↔ x.toNat < y.toNat ∨ (x = y ∧ ltL a b = true) := by
  unfold ltL
  rw [Op.bytesLess]
  simp [UInt8.lt_iff_toNat_lt]
theorem ltL_irrefl : ∀ a : List UInt8, ltL a a = false
  | [] => rfl
  | x :: a => by
    cases h : ltL (x :: a) (x :: a) with
    | false => rfl
    | true =>
      rcases (ltL_cons x x a a).1 h with h | ⟨_, h⟩
      · omega
      · rw [ltL_irrefl a] at h; cases h
theorem ltL_trans : ∀ {a b c : List UInt8}, ltL a b = true → ltL b c = true → ltL a c = true
  | a, b, [], _, h => by rw [ltL_nil] at h; cases h
  | a, [], c :: zs, h, _ => by rw [ltL_nil] at h; cases h
  | [], b :: ys, c :: zs, _, _ => rfl
  | a :: xs, b :: ys, c :: zs, h, g => by
    refine (ltL_cons _ _ _ _).2 ?_
    rcases (ltL_cons a b xs ys).1 h with h1 | ⟨h1, h2⟩
    · rcases (ltL_cons b c ys zs).1 g with g1 | ⟨g1, g2⟩
      · exact .inl (by omega)
      · exact .inl (by rw [← g1]; exact h1)
    · rcases (ltL_cons b c ys zs).1 g with g1 | ⟨g1, g2⟩
      · exact .inl (by rw [h1]; exact g1)
      · exact .inr ⟨h1.trans g1, ltL_trans h2 g2⟩
theorem ltL_tri : ∀ a b : List UInt8, ltL a b = true ∨ a = b ∨ ltL b a = true
  | [], [] => .inr (.inl rfl)
  | [], b :: ys => .inl rfl
  | a :: xs, [] => .inr (.inr rfl)
  | a :: xs, b :: ys => by
    rcases Nat.lt_trichotomy a.toNat b.toNat with h | h | h
    · exact .inl ((ltL_cons _ _ _ _).2 (.inl h))
    · obtain rfl := UInt8.toNat_inj.1 h
      rcases ltL_tri xs ys with h | rfl | h
      · exact .inl ((ltL_cons _ _ _ _).2 (.inr ⟨rfl, h⟩))
      · exact .inr (.inl rfl)
      · exact .inr (.inr ((ltL_cons _ _ _ _).2 (.inr ⟨rfl, h⟩)))
    · exact .inr (.inr ((ltL_cons _ _ _ _).2 (.inl h)))
theorem ltL_asymm {a b : List UInt8} (h : ltL a b = true) : ltL b a = false := by
  cases g : ltL b a with
  | false => rfl
  | true => have := ltL_trans h g; rw [ltL_irrefl] at this; cases this
/-- Not before and before. -/
theorem ge_lt {a b c : List UInt8} (h : ltL b a = false) (g : ltL b c = true) : ltL a c = true := by
  rcases ltL_tri a b with h1 | rfl | h1
  · exact ltL_trans h1 g
  · exact g
  · rw [h] at h1; cases h1
theorem lt_ge {a b c : List UInt8} (h : ltL a b = true) (g : ltL c b = false) : ltL a c = true := by
  rcases ltL_tri b c with h1 | rfl | h1
  · exact ltL_trans h h1
  · exact h
  · rw [g] at h1; cases h1
theorem ge_ge {a b c : List UInt8} (h : ltL b a = false) (g : ltL c b = false) : ltL c a = false := by
  cases h1 : ltL c a with
  | false => rfl
  | true => rw [lt_ge h1 h] at g; cases g

/-- A span: from, to. -/
abbrev Sp := List UInt8 × List UInt8
/-- Has a span a key? -/
def hasL (s : Sp) (k : List UInt8) : Bool := !(ltL k s.1) && (s.2.isEmpty || ltL k s.2)
theorem hasL_iff (s : Sp) (k : List UInt8) : hasL s k = true ↔ ltL k s.1 = false ∧ (s.2 = [] ∨ ltL k s.2 = true) := by
  unfold hasL
  cases ltL k s.1 <;> cases s.2 <;> simp [ltL_nil]
/-- Has one of them a key? -/
def inL (l : List Sp) (k : List UInt8) : Bool := l.any fun s => hasL s k
theorem inL_nil (k : List UInt8) : inL [] k = false := rfl
theorem inL_cons (s : Sp) (l : List Sp) (k : List UInt8) : inL (s :: l) k = (hasL s k || inL l k) := rfl
/-- Rising, apart, none empty. -/
def Canon : List Sp → Prop
  | [] => True
  | [s] => s.2 = [] ∨ ltL s.1 s.2 = true
  | s :: t :: l => ltL s.1 s.2 = true ∧ ltL s.2 t.1 = true ∧ Canon (t :: l)
theorem canon_tail {s : Sp} {l : List Sp} (h : Canon (s :: l)) : Canon l := by
  cases l with
  | nil => trivial
  | cons t l => exact h.2.2
theorem canon_first {s : Sp} {l : List Sp} (h : Canon (s :: l)) : s.2 = [] ∨ ltL s.1 s.2 = true := by
  cases l with
  | nil => exact h
  | cons t l => exact .inr h.1
theorem canon_head {s : Sp} {l : List Sp} (h : Canon (s :: l)) : inL (s :: l) s.1 = true := by
  rw [inL_cons, (hasL_iff s s.1).2 ⟨ltL_irrefl _, canon_first h⟩]; rfl
theorem canon_min : ∀ {l : List Sp} {s : Sp} {k : List UInt8}, Canon (s :: l) → inL (s :: l) k = true → ltL k s.1 = false
  | [], s, k, _, hk => by
    rw [inL_cons, inL_nil, Bool.or_false] at hk
    exact ((hasL_iff s k).1 hk).1
  | t :: l, s, k, h, hk => by
    rw [inL_cons, Bool.or_eq_true] at hk
    rcases hk with hk | hk
    · exact ((hasL_iff s k).1 hk).1
    · have h1 := canon_min h.2.2 hk
      have h2 := ltL_trans h.1 h.2.1
      cases g : ltL k s.1 with
      | false => rfl
      | true => rw [ltL_trans g h2] at h1; cases h1
theorem canon_apart {s : Sp} {l : List Sp} {k : List UInt8} (h : Canon (s :: l)) (hk : inL l k = true) : s.2 ≠ [] ∧ ltL s.2 k = true := by
  cases l with
  | nil => cases hk
  | cons t l =>
    have h1 := canon_min h.2.2 hk
    refine ⟨fun e => ?_, lt_ge h.2.1 h1⟩
    have := h.1
    rw [e, ltL_nil] at this; cases this
theorem canon_rest {s : Sp} {l : List Sp} (k : List UInt8) (h : Canon (s :: l)) : inL l k = (inL (s :: l) k && !(hasL s k)) := by
  rw [inL_cons]
  cases hk : inL l k with
  | false => cases hasL s k <;> rfl
  | true =>
    have ⟨h1, h2⟩ := canon_apart h hk
    have : hasL s k = false := by
      cases g : hasL s k with
      | false => rfl
      | true =>
        rcases ((hasL_iff s k).1 g).2 with g | g
        · exact absurd g h1
        · rw [ltL_asymm h2] at g; cases g
    rw [this]; rfl
theorem canon_end {s : Sp} {l : List Sp} (h : Canon (s :: l)) (he : s.2 ≠ []) : inL (s :: l) s.2 = false := by
  cases g : inL (s :: l) s.2 with
  | false => rfl
  | true =>
    rw [inL_cons, Bool.or_eq_true] at g
    rcases g with g | g
    · rcases ((hasL_iff s s.2).1 g).2 with g | g
      · exact absurd g he
      · rw [ltL_irrefl] at g; cases g
    · have := (canon_apart h g).2
      rw [ltL_irrefl] at this; cases this
/-- Two such lists with the same keys are one. -/
theorem canon_unique : ∀ {l m : List Sp}, Canon l → Canon m → (∀ k, inL l k = inL m k) → l = m
  | [], [], _, _, _ => rfl
  | [], t :: m, _, hm, h => by have := h t.1; rw [canon_head hm] at this; cases this
  | s :: l, [], hl, _, h => by have := h s.1; rw [canon_head hl] at this; cases this
  | s :: l, t :: m, hl, hm, h => by
    have h1 : s.1 = t.1 := by
      rcases ltL_tri s.1 t.1 with g | g | g
      · have := canon_min hm ((h s.1).symm.trans (canon_head hl)); rw [g] at this; cases this
      · exact g
      · have := canon_min hl ((h t.1).trans (canon_head hm)); rw [g] at this; cases this
    have side : ∀ (s t : Sp) (l m : List Sp), Canon (s :: l) → Canon (t :: m) → (∀ k, inL (s :: l) k = inL (t :: m) k) → s.1 = t.1 → t.2 ≠ [] → (s.2 = [] ∨ ltL t.2 s.2 = true) → False := by
      intro s t l m _ hm h h1 h2 h3
      have g1 := (canon_first hm).resolve_left h2
      have g2 : hasL s t.2 = true := (hasL_iff s t.2).2 ⟨ltL_asymm (by rw [h1]; exact g1), h3⟩
      have := h t.2
      rw [canon_end hm h2, inL_cons, g2] at this; cases this
    have h2 : s.2 = t.2 := by
      by_cases e1 : s.2 = []
      · by_cases e2 : t.2 = []
        · rw [e1, e2]
        · exact absurd (side s t l m hl hm h h1 e2 (.inl e1)) id
      · by_cases e2 : t.2 = []
        · exact absurd (side t s m l hm hl (fun k => (h k).symm) h1.symm e1 (.inl e2)) id
        · rcases ltL_tri s.2 t.2 with g | g | g
          · exact absurd (side t s m l hm hl (fun k => (h k).symm) h1.symm e1 (.inr g)) id
          · exact g
          · exact absurd (side s t l m hl hm h h1 e2 (.inr g)) id
    obtain rfl : s = t := Prod.ext h1 h2
    rw [canon_unique (canon_tail hl) (canon_tail hm) (fun k => by rw [canon_rest k hl, canon_rest k hm, h k])]
end Go.Proofs.Ytbgfkjafablfiaa
