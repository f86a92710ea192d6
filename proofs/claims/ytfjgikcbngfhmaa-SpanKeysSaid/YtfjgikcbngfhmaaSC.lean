/-
  The document's answers of layer 5 as functions on lists, and what the chapter promises of them; no program is walked here.
-/
import Derived.Test.YtfjgikcbngfhmaaSB
namespace Go.Proofs.Ytfjgikcbngfhmaa

/-- Is a span right? -/
def validL (s : Sp) : Bool := decide (s.1.length ≤ 65 ∧ s.2.length ≤ 65) && (s.2.isEmpty || ltL s.1 s.2)
theorem validL_iff (s : Sp) : validL s = true ↔ (s.1.length ≤ 65 ∧ s.2.length ≤ 65) ∧ (s.2 = [] ∨ ltL s.1 s.2 = true) := by
  unfold validL
  rw [Bool.and_eq_true, decide_eq_true_eq, Bool.or_eq_true, List.isEmpty_iff]
/-- Has one of the right spans a key? -/
def anyL (l : List Sp) (k : List UInt8) : Bool := l.any fun s => validL s && hasL s k
theorem anyL_iff (l : List Sp) (k : List UInt8) : anyL l k = true ↔ ∃ s ∈ l, validL s = true ∧ hasL s k = true := by
  unfold anyL
  rw [List.any_eq_true]
  simp only [Bool.and_eq_true]
/-- A text into a rising list without doubles. -/
def putL : List (List UInt8) → List UInt8 → List (List UInt8)
  | [], s => [s]
  | e :: r, s => if ltL s e = true then s :: e :: r else if e = s then e :: r else e :: putL r s
theorem mem_putL (x s : List UInt8) : ∀ l, x ∈ putL l s ↔ x = s ∨ x ∈ l
  | [] => by simp [putL]
  | e :: r => by
    unfold putL
    split
    · simp
    · split
      · rename_i h
        subst h
        simp
      · rw [List.mem_cons, mem_putL x s r, List.mem_cons]
        constructor
        · rintro (h | h | h)
          · exact .inr (.inl h)
          · exact .inl h
          · exact .inr (.inr h)
        · rintro (h | h | h)
          · exact .inr (.inl h)
          · exact .inl h
          · exact .inr (.inr h)
theorem rise_putL (s : List UInt8) : ∀ l, Rise l → Rise (putL l s)
  | [], _ => by simp [putL]
  | e :: r, h => by
    have h2 := List.pairwise_cons.1 h
    unfold putL
    split
    · rename_i hs
      refine List.pairwise_cons.2 ⟨fun x hx => ?_, h⟩
      rcases List.mem_cons.1 hx with rfl | hx
      · exact hs
      · exact ltL_trans hs (h2.1 x hx)
    · split
      · exact h
      · rename_i hs he
        refine List.pairwise_cons.2 ⟨fun x hx => ?_, rise_putL s r h2.2⟩
        rcases (mem_putL x s r).1 hx with rfl | hx
        · rcases ltL_tri e x with g | g | g
          · exact g
          · exact absurd g he
          · exact absurd g hs
        · exact h2.1 x hx
def endF (out : List (List UInt8)) (s : Sp) : List (List UInt8) := if validL s = true then putL (putL out s.1) s.2 else out
/-- All ends of right spans, rising, each once; the empty one first. -/
def endsL (l : List Sp) : List (List UInt8) := l.foldl endF [[]]
theorem mem_ends (x : List UInt8) : ∀ (l : List Sp) (o : List (List UInt8)), x ∈ l.foldl endF o ↔ x ∈ o ∨ ∃ s ∈ l, validL s = true ∧ (x = s.1 ∨ x = s.2)
  | [], o => by simp
  | s :: l, o => by
    rw [List.foldl_cons, mem_ends x l]
    unfold endF
    by_cases hv : validL s = true
    · rw [if_pos hv, mem_putL, mem_putL]
      constructor
      · rintro ((h | h | h) | ⟨t, h1, h2⟩)
        · exact .inr ⟨s, by simp, hv, .inr h⟩
        · exact .inr ⟨s, by simp, hv, .inl h⟩
        · exact .inl h
        · exact .inr ⟨t, by simp [h1], h2⟩
      · rintro (h | ⟨t, h1, h2, h3⟩)
        · exact .inl (.inr (.inr h))
        · rcases List.mem_cons.1 h1 with rfl | h1
          · rcases h3 with h3 | h3
            · exact .inl (.inr (.inl h3))
            · exact .inl (.inl h3)
          · exact .inr ⟨t, h1, h2, h3⟩
    · rw [if_neg hv]
      constructor
      · rintro (h | ⟨t, h1, h2⟩)
        · exact .inl h
        · exact .inr ⟨t, by simp [h1], h2⟩
      · rintro (h | ⟨t, h1, h2, h3⟩)
        · exact .inl h
        · rcases List.mem_cons.1 h1 with rfl | h1
          · exact absurd h2 hv
          · exact .inr ⟨t, h1, h2, h3⟩
theorem rise_ends : ∀ (l : List Sp) (o : List (List UInt8)), Rise o → Rise (l.foldl endF o)
  | [], _, h => h
  | s :: l, o, h => by
    rw [List.foldl_cons]
    refine rise_ends l _ ?_
    unfold endF
    split
    · exact rise_putL _ _ (rise_putL _ _ h)
    · exact h
theorem ends_rise (l : List Sp) : Rise (endsL l) := rise_ends l _ (by simp)
theorem ends_mem (l : List Sp) (x : List UInt8) : x ∈ endsL l ↔ x = [] ∨ ∃ s ∈ l, validL s = true ∧ (x = s.1 ∨ x = s.2) := by
  unfold endsL
  rw [mem_ends]; simp
theorem ends_head (l : List Sp) : ∃ es, endsL l = [] :: es := by
  have h0 : [] ∈ endsL l := (ends_mem l []).2 (.inl rfl)
  cases h : endsL l with
  | nil => rw [h] at h0; cases h0
  | cons e es =>
    have hr := ends_rise l
    rw [h] at hr h0
    rcases List.mem_cons.1 h0 with g | g
    · exact ⟨es, by rw [g]⟩
    · have := (List.pairwise_cons.1 hr).1 [] g
      rw [ltL_nil] at this; cases this
/-- A span with both ends among them has two keys alike that no end parts. -/
theorem has_step (s : Sp) (E : List (List UInt8)) (h1 : s.1 ∈ E) (h2 : s.2 ∈ E) : Step (hasL s) E := by
  intro k e he hke hmax
  have a1 : ltL k s.1 = ltL e s.1 := by
    cases g : ltL k s.1 with
    | true =>
      cases g2 : ltL e s.1 with
      | true => rfl
      | false => rw [ge_ge g2 hke] at g; cases g
    | false => exact (hmax _ h1 g).symm
  have a2 : ltL k s.2 = ltL e s.2 := by
    cases g : ltL k s.2 with
    | true =>
      cases g2 : ltL e s.2 with
      | true => rfl
      | false => rw [ge_ge g2 hke] at g; cases g
    | false => exact (hmax _ h2 g).symm
  unfold hasL
  rw [a1, a2]
theorem any_step (l : List Sp) (E : List (List UInt8)) (h : ∀ s ∈ l, validL s = true → s.1 ∈ E ∧ s.2 ∈ E) : Step (anyL l) E := by
  intro k e he hke hmax
  have : ∀ s ∈ l, (validL s && hasL s k) = (validL s && hasL s e) := fun s hs => by
    cases hv : validL s with
    | false => rfl
    | true => rw [has_step s E (h s hs hv).1 (h s hs hv).2 k e he hke hmax]
  unfold anyL
  rw [Bool.eq_iff_iff, List.any_eq_true, List.any_eq_true]
  constructor
  · rintro ⟨s, hs, g⟩; exact ⟨s, hs, by rw [← this s hs]; exact g⟩
  · rintro ⟨s, hs, g⟩; exact ⟨s, hs, by rw [this s hs]; exact g⟩
/-- The union. -/
def unionL (l : List Sp) : List Sp := madeL none ((endsL l).map fun e => (e, anyL l e))
theorem union_has (l : List Sp) (k : List UInt8) : inL (unionL l) k = anyL l k := by
  obtain ⟨es, he⟩ := ends_head l
  unfold unionL
  rw [he]
  refine made_told (anyL l) es (by rw [← he]; exact ends_rise l) ?_ k
  rw [← he]
  exact any_step l _ fun s hs hv => ⟨(ends_mem l _).2 (.inr ⟨s, hs, hv, .inl rfl⟩), (ends_mem l _).2 (.inr ⟨s, hs, hv, .inr rfl⟩)⟩
theorem union_canon (l : List Sp) : Canon (unionL l) := made_told_canon (anyL l) _ (ends_rise l)
/-- What is left. -/
def goneL (s : Sp) (k : List UInt8) : Bool := validL s && hasL s k
def minusL (l : List Sp) (s : Sp) : List Sp := madeL none ((endsL (l ++ [s])).map fun e => (e, anyL l e && !(goneL s e)))
theorem minus_has (l : List Sp) (s : Sp) (k : List UInt8) : inL (minusL l s) k = (anyL l k && !(goneL s k)) := by
  obtain ⟨es, he⟩ := ends_head (l ++ [s])
  unfold minusL
  rw [he]
  refine made_told (fun k => anyL l k && !(goneL s k)) es (by rw [← he]; exact ends_rise _) ?_ k
  rw [← he]
  have ha : Step (anyL l) (endsL (l ++ [s])) := any_step l _ fun t ht hv => ⟨(ends_mem _ _).2 (.inr ⟨t, by simp [ht], hv, .inl rfl⟩), (ends_mem _ _).2 (.inr ⟨t, by simp [ht], hv, .inr rfl⟩)⟩
  intro k e h1 h2 h3
  show (anyL l k && !(goneL s k)) = (anyL l e && !(goneL s e))
  rw [ha k e h1 h2 h3]
  unfold goneL
  cases hv : validL s with
  | false => rfl
  | true =>
    rw [has_step s _ ((ends_mem _ _).2 (.inr ⟨s, by simp, hv, .inl rfl⟩)) ((ends_mem _ _).2 (.inr ⟨s, by simp, hv, .inr rfl⟩)) k e h1 h2 h3]
theorem minus_canon (l : List Sp) (s : Sp) : Canon (minusL l s) := made_told_canon (fun e => anyL l e && !(goneL s e)) _ (ends_rise _)
/-- Are all keys had? -/
def coversL (l : List Sp) (s : Sp) : Bool := validL s && (endsL (l ++ [s])).all fun e => !(hasL s e) || anyL l e
theorem covers_iff (l : List Sp) (s : Sp) : coversL l s = true ↔ validL s = true ∧ ∀ k, hasL s k = true → anyL l k = true := by
  unfold coversL
  rw [Bool.and_eq_true, List.all_eq_true]
  constructor
  · rintro ⟨hv, h⟩
    refine ⟨hv, fun k hk => ?_⟩
    have ha : Step (fun k => !(hasL s k) || anyL l k) (endsL (l ++ [s])) := fun k e h1 h2 h3 => by
      show (!(hasL s k) || anyL l k) = (!(hasL s e) || anyL l e)
      rw [any_step l _ (fun t ht hv => ⟨(ends_mem _ _).2 (.inr ⟨t, by simp [ht], hv, .inl rfl⟩), (ends_mem _ _).2 (.inr ⟨t, by simp [ht], hv, .inr rfl⟩)⟩) k e h1 h2 h3,
        has_step s _ ((ends_mem _ _).2 (.inr ⟨s, by simp, hv, .inl rfl⟩)) ((ends_mem _ _).2 (.inr ⟨s, by simp, hv, .inr rfl⟩)) k e h1 h2 h3]
    obtain ⟨es, he⟩ := ends_head (l ++ [s])
    have g := valAt_step _ _ (ends_rise _) ha k es [] [] he (ltL_nil k)
    have all : ∀ (b : Bool) (q : List (List UInt8 × Bool)), b = true → (∀ p ∈ q, p.2 = true) → valAt b q k = true := by
      intro b q
      induction q generalizing b with
      | nil => exact fun hb _ => hb
      | cons p q ih =>
        intro hb hq
        rw [valAt]
        split
        · exact hb
        · exact ih _ (hq p (by simp)) (fun x hx => hq x (by simp [hx]))
    rw [all _ _ (h [] (by rw [he]; simp)) (fun p hp => by
      obtain ⟨e, he2, rfl⟩ := List.mem_map.1 hp
      exact h e (by rw [he]; simp [he2]))] at g
    have g' : (!(hasL s k) || anyL l k) = true := g.symm
    rw [hk] at g'
    simpa using g'
  · rintro ⟨hv, h⟩
    refine ⟨hv, fun e _ => ?_⟩
    cases hk : hasL s e with
    | false => rfl
    | true => rw [h e hk]; rfl

theorem made_valid (r : List (List UInt8 × Bool)) (hr : Rise (r.map (·.1))) (h : ∀ e ∈ r.map (·.1), e.length ≤ 65) : ∀ s ∈ madeL none r, validL s = true := by
  have hc := (made_canon r hr).1
  intro s hs
  have hm := made_mem r none s hs
  have key : ∀ (l : List Sp), Canon l → ∀ s ∈ l, s.2 = [] ∨ ltL s.1 s.2 = true := by
    intro l
    induction l with
    | nil => intro _ s hs; cases hs
    | cons t l ih =>
      intro hc s hs
      rcases List.mem_cons.1 hs with rfl | hs
      · exact canon_first hc
      · exact ih (canon_tail hc) s hs
  refine (validL_iff s).2 ⟨⟨?_, ?_⟩, key _ hc s hs⟩
  · rcases hm.1 with g | g
    · cases g
    · exact h _ g
  · rcases hm.2 with g | g
    · rw [g]; simp
    · exact h _ g
theorem ends_short (l : List Sp) : ∀ e ∈ endsL l, e.length ≤ 65 := by
  intro e he
  rcases (ends_mem l e).1 he with rfl | ⟨s, _, hv, h⟩
  · simp
  · have := ((validL_iff s).1 hv).1
    rcases h with rfl | rfl
    · exact this.1
    · exact this.2
theorem any_valid (l : List Sp) (h : ∀ s ∈ l, validL s = true) (k : List UInt8) : anyL l k = inL l k := by
  unfold anyL inL
  rw [Bool.eq_iff_iff, List.any_eq_true, List.any_eq_true]
  constructor
  · rintro ⟨s, hs, g⟩; exact ⟨s, hs, by rw [h s hs, Bool.true_and] at g; exact g⟩
  · rintro ⟨s, hs, g⟩; exact ⟨s, hs, by rw [h s hs, Bool.true_and]; exact g⟩
theorem union_valid (l : List Sp) : ∀ s ∈ unionL l, validL s = true := by
  have hm : ((endsL l).map fun e => (e, anyL l e)).map (·.1) = endsL l := by rw [List.map_map]; exact List.map_id _
  exact made_valid _ (by rw [hm]; exact ends_rise l) (by rw [hm]; exact ends_short l)
theorem minus_valid (l : List Sp) (s : Sp) : ∀ t ∈ minusL l s, validL t = true := by
  have hm : ((endsL (l ++ [s])).map fun e => (e, anyL l e && !(goneL s e))).map (·.1) = endsL (l ++ [s]) := by rw [List.map_map]; exact List.map_id _
  exact made_valid _ (by rw [hm]; exact ends_rise _) (by rw [hm]; exact ends_short _)
/-- Whatever rises, stands apart and has the keys of the right ones is the union. -/
theorem union_only (l m : List Sp) (hm : Canon m) (h : ∀ k, inL m k = anyL l k) : m = unionL l :=
  canon_unique hm (union_canon l) fun k => by rw [h, union_has]
theorem minus_only (l m : List Sp) (s : Sp) (hm : Canon m) (h : ∀ k, inL m k = (anyL l k && !(goneL s k))) : m = minusL l s :=
  canon_unique hm (minus_canon l s) fun k => by rw [h, minus_has]
/-- The union of a union is the same union. -/
theorem union_twice (l : List Sp) : unionL (unionL l) = unionL l :=
  (union_only (unionL l) (unionL l) (union_canon l) fun k => (any_valid _ (union_valid l) k).symm).symm
theorem minus_twice (l : List Sp) (s : Sp) : minusL (minusL l s) s = minusL l s :=
  (minus_only (minusL l s) (minusL l s) s (minus_canon l s) fun k => by
    rw [any_valid _ (minus_valid l s), minus_has]
    cases anyL l k <;> cases goneL s k <;> rfl).symm
theorem minus_uncovered (l : List Sp) (s : Sp) : coversL (minusL l s) s = false := by
  cases h : coversL (minusL l s) s with
  | false => rfl
  | true =>
    obtain ⟨hv, h⟩ := (covers_iff _ _).1 h
    have h0 : hasL s s.1 = true := (hasL_iff s s.1).2 ⟨ltL_irrefl _, ((validL_iff s).1 hv).2⟩
    have := h s.1 h0
    rw [any_valid _ (minus_valid l s), minus_has] at this
    unfold goneL at this
    rw [hv, h0] at this
    simp at this
/-- Inside another one just if that one alone covers it. -/
theorem inside_iff (a b : Sp) (hb : validL b = true) : coversL [b] a = true ↔ validL a = true ∧ ltL a.1 b.1 = false ∧ (b.2 = [] ∨ (a.2 ≠ [] ∧ ltL b.2 a.2 = false)) := by
  rw [covers_iff]
  have one : ∀ k, anyL [b] k = hasL b k := fun k => by unfold anyL; simp [hb]
  simp only [one]
  constructor
  · rintro ⟨hv, h⟩
    have ha := ((validL_iff a).1 hv).2
    have h0 := (hasL_iff b a.1).1 (h a.1 ((hasL_iff a a.1).2 ⟨ltL_irrefl _, ha⟩))
    refine ⟨hv, h0.1, ?_⟩
    by_cases e : b.2 = []
    · exact .inl e
    · refine .inr ?_
      have hb2 : hasL b b.2 = false := by
        cases g : hasL b b.2 with
        | false => rfl
        | true =>
          rcases ((hasL_iff b b.2).1 g).2 with g | g
          · exact absurd g e
          · rw [ltL_irrefl] at g; cases g
      have n1 : ¬ hasL a b.2 = true := fun g => by rw [h _ g] at hb2; cases hb2
      have lo : ltL b.2 a.1 = false := ltL_asymm (h0.2.resolve_left e)
      constructor
      · exact fun e2 => n1 ((hasL_iff a b.2).2 ⟨lo, .inl e2⟩)
      · cases g : ltL b.2 a.2 with
        | false => rfl
        | true => exact absurd ((hasL_iff a b.2).2 ⟨lo, .inr g⟩) n1
  · rintro ⟨hv, h1, h2⟩
    refine ⟨hv, fun k hk => ?_⟩
    obtain ⟨k1, k2⟩ := (hasL_iff a k).1 hk
    refine (hasL_iff b k).2 ⟨ge_ge h1 k1, ?_⟩
    rcases h2 with h2 | ⟨h2, h3⟩
    · exact .inl h2
    · exact .inr (lt_ge (k2.resolve_left h2) h3)
end Go.Proofs.Ytfjgikcbngfhmaa
