/-
  A union's spans and another span: which one has all of it; what of them is left without it (pure).
-/
import Derived.Test.YtfjgikcbngfhmaaGG
import Derived.Test.YtfjgikcbngfhmaaGB
namespace Go.Proofs.Ytfjgikcbngfhmaa

theorem has_first {x : Sp} (h : Okay x) : hasL x x.1 = true := (hasL_iff _ _).2 ⟨ltL_irrefl _, h⟩
theorem in_of_mem {u : List Sp} {x : Sp} {k : List UInt8} (h : x ∈ u) (hk : hasL x k = true) : inL u k = true := by
  unfold inL; rw [List.any_eq_true]; exact ⟨x, h, hk⟩
theorem mem_of_in {u : List Sp} {k : List UInt8} (h : inL u k = true) : ∃ x ∈ u, hasL x k = true := by
  unfold inL at h; rw [List.any_eq_true] at h; exact h
theorem canon_ahead {t : Sp} {u : List Sp} (hc : Canon (t :: u)) {x : Sp} (hx : x ∈ u) (hv : Okay x) : t.2 ≠ [] ∧ ltL t.2 x.1 = true :=
  canon_apart hc (in_of_mem hx (has_first hv))
/-- No span of a union has the end of one of them. -/
theorem canon_out : ∀ {u : List Sp}, Canon u → (∀ x ∈ u, Okay x) → ∀ x ∈ u, x.2 ≠ [] → inL u x.2 = false
  | [], _, _, x, hx, _ => by cases hx
  | t :: u, hc, hv, x, hx, he => by
    rcases List.mem_cons.1 hx with rfl | hx
    · exact canon_end hc he
    · have ih := canon_out (canon_tail hc) (fun y hy => hv y (List.mem_cons_of_mem _ hy)) x hx he
      have hxv : Okay x := hv x (List.mem_cons_of_mem _ hx)
      obtain ⟨h1, h2⟩ := canon_ahead hc hx hxv
      rw [inL_cons, ih, Bool.or_false]
      refine Bool.eq_false_iff.2 fun h => ?_
      obtain ⟨_, h4⟩ := (hasL_iff _ _).1 h
      rcases h4 with h4 | h4
      · exact h1 h4
      · have h5 := ltL_trans h2 (hxv.resolve_left he)
        rw [ltL_asymm h5] at h4; cases h4
theorem covers_one (l : List Sp) (s : Sp) : (unionL l).any (fun x => insL s x) = coversL l s := by
  have hval := union_valid l
  have hok : ∀ x ∈ unionL l, Okay x := fun x hx => ((validL_iff x).1 (hval x hx)).2
  rw [Bool.eq_iff_iff, List.any_eq_true, covers_iff]
  constructor
  · rintro ⟨x, hx, h⟩
    rw [insL_eq, Bool.and_eq_true, covers_iff] at h
    obtain ⟨h1, h2, h3⟩ := h
    refine ⟨h2, fun k hk => ?_⟩
    have := h3 k hk
    rw [anyL_iff] at this
    obtain ⟨y, hy, _, hyk⟩ := this
    obtain rfl : y = x := by simpa using hy
    rw [← union_has]
    exact in_of_mem hx hyk
  · rintro ⟨hs, hall⟩
    have hso : Okay s := ((validL_iff s).1 hs).2
    have h0 := hall s.1 (has_first hso)
    rw [← union_has] at h0
    obtain ⟨x, hx, hxk⟩ := mem_of_in h0
    refine ⟨x, hx, ?_⟩
    have hxv := hval x hx
    rw [insL_eq, hxv, Bool.true_and, inside_iff s x hxv]
    obtain ⟨g1, g2⟩ := (hasL_iff _ _).1 hxk
    refine ⟨hs, g1, ?_⟩
    by_cases e : x.2 = []
    · exact .inl e
    · refine .inr ?_
      have hout := canon_out (union_canon l) hok x hx e
      have hno : hasL s x.2 = false := Bool.eq_false_iff.2 fun h => by
        have := hall x.2 h
        rw [← union_has, hout] at this; cases this
      have hlt := g2.resolve_left e
      constructor
      · intro e2
        rw [(hasL_iff _ _).2 ⟨ltL_asymm hlt, .inl e2⟩] at hno; cases hno
      · refine Bool.eq_false_iff.2 fun h => ?_
        rw [(hasL_iff _ _).2 ⟨ltL_asymm hlt, .inr h⟩] at hno; cases hno

/-- The greater one. -/
def maxL (a b : List UInt8) : List UInt8 := if ltL a b = true then b else a
/-- What is left of a span ahead of another one, and behind it. -/
def aheadL (x s : Sp) : List Sp := if ltL x.1 s.1 = true then [(x.1, if soonL x.2 s.1 = true then x.2 else s.1)] else []
def behindL (x s : Sp) : List Sp := if s.2 ≠ [] ∧ (x.2 = [] ∨ ltL (maxL x.1 s.2) x.2 = true) then [(maxL x.1 s.2, x.2)] else []
def leftL (s : Sp) (u : List Sp) : List Sp := u.flatMap fun x => aheadL x s ++ behindL x s
theorem max_ge (a b k : List UInt8) : ltL k (maxL a b) = false ↔ ltL k a = false ∧ ltL k b = false := by
  unfold maxL
  split
  · rename_i h
    exact ⟨fun g => ⟨ge_ge (ltL_asymm h) g, g⟩, fun g => g.2⟩
  · rename_i h
    have h' : ltL a b = false := Bool.eq_false_iff.2 h
    exact ⟨fun g => ⟨g, ge_ge h' g⟩, fun g => g.1⟩
theorem ahead_has (x s : Sp) (k : List UInt8) : inL (aheadL x s) k = true ↔ ltL k x.1 = false ∧ (x.2 = [] ∨ ltL k x.2 = true) ∧ ltL k s.1 = true := by
  unfold aheadL
  by_cases h : ltL x.1 s.1 = true
  · rw [if_pos h, inL_cons, inL_nil, Bool.or_false, hasL_iff]
    have hs : s.1 ≠ [] := fun e => by rw [e, ltL_nil] at h; cases h
    simp only
    by_cases hq : soonL x.2 s.1 = true
    · rw [if_pos hq]
      obtain ⟨q1, q2⟩ := (soonL_iff _ _).1 hq
      have q3 := q2.resolve_left hs
      exact ⟨fun ⟨a, b⟩ => ⟨a, b, ltL_trans (b.resolve_left q1) q3⟩, fun ⟨a, b, _⟩ => ⟨a, b⟩⟩
    · rw [if_neg hq]
      have q : x.2 = [] ∨ ltL x.2 s.1 = false := by
        by_cases e : x.2 = []
        · exact .inl e
        · exact .inr (Bool.eq_false_iff.2 fun h => hq ((soonL_iff _ _).2 ⟨e, .inr h⟩))
      constructor
      · rintro ⟨a, b⟩
        have b' := b.resolve_left hs
        exact ⟨a, q.elim .inl (fun q => .inr (lt_ge b' q)), b'⟩
      · rintro ⟨a, _, c⟩
        exact ⟨a, .inr c⟩
  · rw [if_neg h, inL_nil]
    constructor
    · intro h; cases h
    · rintro ⟨a, _, c⟩
      exact absurd (ge_lt a c) h
theorem behind_has (x s : Sp) (k : List UInt8) : inL (behindL x s) k = true ↔ ltL k x.1 = false ∧ (x.2 = [] ∨ ltL k x.2 = true) ∧ s.2 ≠ [] ∧ ltL k s.2 = false := by
  unfold behindL
  by_cases h : s.2 ≠ [] ∧ (x.2 = [] ∨ ltL (maxL x.1 s.2) x.2 = true)
  · rw [if_pos h, inL_cons, inL_nil, Bool.or_false, hasL_iff]
    simp only
    rw [max_ge]
    exact ⟨fun ⟨⟨a, b⟩, c⟩ => ⟨a, c, h.1, b⟩, fun ⟨a, c, _, b⟩ => ⟨⟨a, b⟩, c⟩⟩
  · rw [if_neg h, inL_nil]
    constructor
    · intro h; cases h
    · rintro ⟨a, b, c, d⟩
      refine absurd ⟨c, ?_⟩ h
      rcases b with e | e
      · exact .inl e
      · exact .inr (ge_lt ((max_ge _ _ _).2 ⟨a, d⟩) e)
theorem in_append (l m : List Sp) (k : List UInt8) : inL (l ++ m) k = (inL l k || inL m k) := by unfold inL; rw [List.any_append]
theorem not_has (s : Sp) (k : List UInt8) : hasL s k = false ↔ ¬ (ltL k s.1 = false ∧ (s.2 = [] ∨ ltL k s.2 = true)) := by
  rw [← hasL_iff, Bool.not_eq_true]
theorem piece_has (x s : Sp) (k : List UInt8) : inL (aheadL x s ++ behindL x s) k = (hasL x k && !(hasL s k)) := by
  rw [in_append, Bool.eq_iff_iff, Bool.or_eq_true, ahead_has, behind_has, Bool.and_eq_true, hasL_iff, Bool.not_eq_true', not_has]
  constructor
  · rintro (⟨a, b, c⟩ | ⟨a, b, c, d⟩)
    · exact ⟨⟨a, b⟩, fun ⟨e, _⟩ => by rw [e] at c; cases c⟩
    · exact ⟨⟨a, b⟩, fun ⟨_, e⟩ => by rw [d] at e; exact e.elim c (fun e => by cases e)⟩
  · rintro ⟨⟨a, b⟩, h⟩
    cases hc : ltL k s.1 with
    | true => exact .inl ⟨a, b, rfl⟩
    | false =>
      refine .inr ⟨a, b, fun e => h ⟨hc, .inl e⟩, Bool.eq_false_iff.2 fun e => h ⟨hc, .inr e⟩⟩
theorem left_has (s : Sp) : ∀ (u : List Sp) (k : List UInt8), inL (leftL s u) k = (inL u k && !(hasL s k))
  | [], k => by simp [leftL, inL_nil]
  | x :: u, k => by
    have : leftL s (x :: u) = (aheadL x s ++ behindL x s) ++ leftL s u := rfl
    rw [this, in_append, piece_has, left_has s u, inL_cons, Bool.and_or_distrib_right]
theorem piece_from {x s y : Sp} (h : y ∈ aheadL x s ++ behindL x s) : ltL y.1 x.1 = false := by
  rcases List.mem_append.1 h with h | h
  · unfold aheadL at h
    split at h
    · obtain rfl := List.mem_singleton.1 h
      exact ltL_irrefl _
    · cases h
  · unfold behindL at h
    split at h
    · obtain rfl := List.mem_singleton.1 h
      exact ((max_ge _ _ _).1 (ltL_irrefl (maxL x.1 s.2))).1
    · cases h
theorem ahead_okay {x s y : Sp} (hx : Okay x) (h : y ∈ aheadL x s) : Okay y := by
  unfold aheadL at h
  split at h
  · rename_i hl
    obtain rfl := List.mem_singleton.1 h
    unfold Okay
    simp only
    split
    · exact hx
    · exact .inr hl
  · cases h
theorem behind_okay {x s y : Sp} (h : y ∈ behindL x s) : Okay y := by
  unfold behindL at h
  split at h
  · rename_i hl
    obtain rfl := List.mem_singleton.1 h
    exact hl.2
  · cases h
/-- Behind all of a span's pieces there is a gap, where there is one behind the span. -/
theorem piece_end {x s y : Sp} (h : y ∈ aheadL x s ++ behindL x s) (hx : x.2 ≠ []) : y.2 ≠ [] ∧ ltL x.2 y.2 = false := by
  rcases List.mem_append.1 h with h | h
  · unfold aheadL at h
    split at h
    · rename_i hl
      obtain rfl := List.mem_singleton.1 h
      have hs : s.1 ≠ [] := fun e => by rw [e, ltL_nil] at hl; cases hl
      simp only
      split
      · exact ⟨hx, ltL_irrefl _⟩
      · rename_i hq
        exact ⟨hs, Bool.eq_false_iff.2 fun h => hq ((soonL_iff _ _).2 ⟨hx, .inr h⟩)⟩
    · cases h
  · unfold behindL at h
    split at h
    · obtain rfl := List.mem_singleton.1 h
      exact ⟨hx, ltL_irrefl _⟩
    · cases h
theorem left_from {s y : Sp} {u : List Sp} (h : y ∈ leftL s u) : ∃ x ∈ u, ltL y.1 x.1 = false := by
  unfold leftL at h
  obtain ⟨x, hx, hy⟩ := List.mem_flatMap.1 h
  exact ⟨x, hx, piece_from hy⟩
theorem behind_canon {x s : Sp} {m : List Sp} (h : ∀ y ∈ behindL x s, m = [] ∨ (y.2 ≠ [] ∧ ∀ t ∈ m, ltL y.2 t.1 = true)) (hm : Canon m) : Canon (behindL x s ++ m) := by
  by_cases hb : behindL x s = []
  · rw [hb]; exact hm
  · obtain ⟨y, hy⟩ : ∃ y, behindL x s = [y] := by
      unfold behindL at hb ⊢
      split
      · exact ⟨_, rfl⟩
      · rename_i h; rw [if_neg h] at hb; exact absurd rfl hb
    have hmem : y ∈ behindL x s := by rw [hy]; simp
    rw [hy]
    exact canon_of (behind_okay hmem) (h y hmem) hm
theorem left_canon (s : Sp) (hs : Okay s) : ∀ (u : List Sp), Canon u → (∀ x ∈ u, Okay x) → Canon (leftL s u)
  | [], _, _ => trivial
  | x :: u, hc, hv => by
    have hx := hv x (by simp)
    have hm := left_canon s hs u (canon_tail hc) (fun y hy => hv y (List.mem_cons_of_mem _ hy))
    have hgap : ∀ t ∈ leftL s u, x.2 ≠ [] ∧ ltL x.2 t.1 = true := fun t ht => by
      obtain ⟨y, hy, h⟩ := left_from ht
      obtain ⟨h1, h2⟩ := canon_ahead hc hy (hv y (List.mem_cons_of_mem _ hy))
      exact ⟨h1, lt_ge h2 h⟩
    have hp : ∀ y ∈ aheadL x s ++ behindL x s, leftL s u = [] ∨ (y.2 ≠ [] ∧ ∀ t ∈ leftL s u, ltL y.2 t.1 = true) := fun y hy => by
      by_cases e : leftL s u = []
      · exact .inl e
      · obtain ⟨t0, ht0⟩ := List.exists_mem_of_ne_nil _ e
        obtain ⟨h1, h2⟩ := piece_end hy (hgap t0 ht0).1
        exact .inr ⟨h1, fun t ht => ge_lt h2 (hgap t ht).2⟩
    have hb : Canon (behindL x s ++ leftL s u) := behind_canon (fun y hy => hp y (List.mem_append_right _ hy)) hm
    have e0 : leftL s (x :: u) = aheadL x s ++ (behindL x s ++ leftL s u) := by
      show (aheadL x s ++ behindL x s) ++ leftL s u = _
      rw [List.append_assoc]
    rw [e0]
    by_cases ha : aheadL x s = []
    · rw [ha]; exact hb
    · obtain ⟨hl, hy⟩ : ltL x.1 s.1 = true ∧ aheadL x s = [(x.1, if soonL x.2 s.1 = true then x.2 else s.1)] := by
        unfold aheadL at ha ⊢
        split
        · rename_i h; exact ⟨h, rfl⟩
        · rename_i h; rw [if_neg h] at ha; exact absurd rfl ha
      have hmem : (x.1, if soonL x.2 s.1 = true then x.2 else s.1) ∈ aheadL x s := by rw [hy]; simp
      have hs1 : s.1 ≠ [] := fun e => by rw [e, ltL_nil] at hl; cases hl
      rw [hy]
      show Canon (_ :: (behindL x s ++ leftL s u))
      refine canon_of (ahead_okay hx hmem) ?_ hb
      by_cases hbe : behindL x s = []
      · rw [hbe, List.nil_append]
        exact hp _ (List.mem_append_left _ hmem)
      · refine .inr ?_
        have hcond : s.2 ≠ [] ∧ (x.2 = [] ∨ ltL (maxL x.1 s.2) x.2 = true) := by
          by_cases h : s.2 ≠ [] ∧ (x.2 = [] ∨ ltL (maxL x.1 s.2) x.2 = true)
          · exact h
          · unfold behindL at hbe; rw [if_neg h] at hbe; exact absurd rfl hbe
        have hss := hs.resolve_left hcond.1
        have hns : soonL x.2 s.1 = false := Bool.eq_false_iff.2 fun h => by
          obtain ⟨q1, q2⟩ := (soonL_iff _ _).1 h
          have q3 := q2.resolve_left hs1
          have q4 := hcond.2.resolve_left q1
          have q5 := ((max_ge x.1 s.2 _).1 (ltL_irrefl (maxL x.1 s.2))).2
          have := ltL_trans (ge_lt q5 q4) q3
          rw [ltL_asymm hss] at this; cases this
        rw [if_neg (by rw [hns]; simp)]
        refine ⟨hs1, fun t ht => ?_⟩
        rcases List.mem_append.1 ht with ht | ht
        · unfold behindL at ht
          rw [if_pos hcond] at ht
          obtain rfl := List.mem_singleton.1 ht
          exact lt_ge hss ((max_ge x.1 s.2 _).1 (ltL_irrefl (maxL x.1 s.2))).2
        · rcases hp _ (List.mem_append_left _ hmem) with e | ⟨_, h⟩
          · rw [e] at ht; cases ht
          · have := h t ht
            rwa [if_neg (by rw [hns]; simp)] at this
theorem left_minus (l : List Sp) (s : Sp) (hs : validL s = true) : leftL s (unionL l) = minusL l s := by
  have hok : ∀ x ∈ unionL l, Okay x := fun x hx => ((validL_iff x).1 (union_valid l x hx)).2
  refine minus_only l _ s (left_canon s ((validL_iff s).1 hs).2 _ (union_canon l) hok) fun k => ?_
  rw [left_has, union_has]
  unfold goneL
  rw [hs, Bool.true_and]
theorem wrong_minus (l : List Sp) (s : Sp) (hs : validL s = false) : unionL l = minusL l s := by
  refine minus_only l _ s (union_canon l) fun k => ?_
  rw [union_has]
  unfold goneL
  rw [hs, Bool.false_and]
  simp
end Go.Proofs.Ytfjgikcbngfhmaa
