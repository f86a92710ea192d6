/-
  Spans that begin in order, drawn together; what of each is left where another one is taken away (pure).
-/
import Derived.Test.YtfjgikcbngfhmaaGA
namespace Go.Proofs.Ytfjgikcbngfhmaa

/-- Does a span begin behind another one's end, with a gap between them? -/
def gapL (e f : List UInt8) : Bool := !e.isEmpty && ltL e f
/-- The union of spans that begin in order, the first of them under way. -/
def uniL : Sp → List Sp → List Sp
  | t, [] => [t]
  | t, s :: r => if gapL t.2 s.1 = true then t :: uniL s r else uniL (t.1, if soonL t.2 s.2 = true then s.2 else t.2) r
theorem soonL_def (a b : List UInt8) : soonL a b = (!a.isEmpty && (b.isEmpty || ltL a b)) := by unfold soonL; rfl
theorem soonL_iff (a b : List UInt8) : soonL a b = true ↔ a ≠ [] ∧ (b = [] ∨ ltL a b = true) := by
  rw [soonL_def]; simp
theorem gapL_iff (e f : List UInt8) : gapL e f = true ↔ e ≠ [] ∧ ltL e f = true := by unfold gapL; simp

/-- It begins where it ends later, or has no end. -/
abbrev Okay (s : Sp) : Prop := s.2 = [] ∨ ltL s.1 s.2 = true
theorem join_okay {t s : Sp} (ht : Okay t) (hs : Okay s) (h : ltL s.1 t.1 = false) : Okay (t.1, if soonL t.2 s.2 = true then s.2 else t.2) := by
  unfold Okay
  simp only
  split
  · rcases hs with e | e
    · exact .inl e
    · exact .inr (ge_lt h e)
  · exact ht
theorem join_has {t s : Sp} (h : ltL s.1 t.1 = false) (hg : gapL t.2 s.1 = false) (k : List UInt8) : hasL (t.1, if soonL t.2 s.2 = true then s.2 else t.2) k = (hasL t k || hasL s k) := by
  have hg' : t.2 = [] ∨ ltL t.2 s.1 = false := by
    by_cases e : t.2 = []
    · exact .inl e
    · refine .inr (Bool.eq_false_iff.2 fun e' => ?_)
      rw [(gapL_iff _ _).2 ⟨e, e'⟩] at hg; cases hg
  rw [Bool.eq_iff_iff, Bool.or_eq_true, hasL_iff, hasL_iff, hasL_iff]
  simp only
  by_cases hs : soonL t.2 s.2 = true
  · rw [if_pos hs]
    obtain ⟨h1, h2⟩ := (soonL_iff _ _).1 hs
    constructor
    · rintro ⟨k1, k2⟩
      by_cases e : ltL k t.2 = true
      · exact .inl ⟨k1, .inr e⟩
      · have e' : ltL k t.2 = false := Bool.eq_false_iff.2 e
        rcases hg' with g | g
        · exact absurd g h1
        · exact .inr ⟨ge_ge g e', k2⟩
    · rintro (⟨k1, k2⟩ | ⟨k1, k2⟩)
      · refine ⟨k1, ?_⟩
        rcases k2 with e | e
        · exact absurd e h1
        · rcases h2 with g | g
          · exact .inl g
          · exact .inr (ltL_trans e g)
      · exact ⟨ge_ge h k1, k2⟩
  · rw [if_neg hs]
    have hs' : t.2 = [] ∨ (s.2 ≠ [] ∧ ltL t.2 s.2 = false) := by
      by_cases e : t.2 = []
      · exact .inl e
      · refine .inr ⟨fun e' => hs ((soonL_iff _ _).2 ⟨e, .inl e'⟩), Bool.eq_false_iff.2 fun e' => hs ((soonL_iff _ _).2 ⟨e, .inr e'⟩)⟩
    constructor
    · exact fun hk => .inl hk
    · rintro (hk | ⟨k1, k2⟩)
      · exact hk
      · refine ⟨ge_ge h k1, ?_⟩
        rcases hs' with e | ⟨e, g⟩
        · exact .inl e
        · rcases k2 with e' | e'
          · exact absurd e' e
          · exact .inr (lt_ge e' g)

/-- They begin in order, from a key on. -/
def From (f : List UInt8) (r : List Sp) : Prop := ∀ s ∈ r, ltL s.1 f = false
abbrev Order (r : List Sp) : Prop := r.Pairwise fun x y => ltL y.1 x.1 = false
theorem uni_from : ∀ (r : List Sp) (t : Sp), Order (t :: r) → ∀ x ∈ uniL t r, ltL x.1 t.1 = false
  | [], t, _, x, hx => by
    obtain rfl : x = t := by simpa [uniL] using hx
    exact ltL_irrefl _
  | s :: r, t, h, x, hx => by
    obtain ⟨h1, h2⟩ := List.pairwise_cons.1 h
    obtain ⟨h3, h4⟩ := List.pairwise_cons.1 h2
    have hst : ltL s.1 t.1 = false := h1 s (by simp)
    unfold uniL at hx
    split at hx
    · rcases List.mem_cons.1 hx with rfl | hx
      · exact ltL_irrefl _
      · exact ge_ge hst (uni_from r s h2 x hx)
    · exact uni_from r (t.1, if soonL t.2 s.2 = true then s.2 else t.2) (List.pairwise_cons.2 ⟨fun y hy => h1 y (List.mem_cons_of_mem _ hy), h4⟩) x hx
theorem canon_of {f e : List UInt8} {l : List Sp} (h1 : Okay (f, e)) (h2 : l = [] ∨ (e ≠ [] ∧ ∀ t ∈ l, ltL e t.1 = true)) (h3 : Canon l) : Canon ((f, e) :: l) := by
  rcases h2 with rfl | ⟨he, h2⟩
  · exact h1
  · exact canon_cons (h1.resolve_left he) h2 h3
theorem uni_canon : ∀ (r : List Sp) (t : Sp), Order (t :: r) → Okay t → (∀ s ∈ r, Okay s) → Canon (uniL t r)
  | [], t, _, ht, _ => ht
  | s :: r, t, h, ht, hr => by
    obtain ⟨h1, h2⟩ := List.pairwise_cons.1 h
    obtain ⟨h3, h4⟩ := List.pairwise_cons.1 h2
    have hst : ltL s.1 t.1 = false := h1 s (by simp)
    have hs := hr s (by simp)
    unfold uniL
    split
    · rename_i hg
      obtain ⟨g1, g2⟩ := (gapL_iff _ _).1 hg
      exact canon_of ht (.inr ⟨g1, fun x hx => lt_ge g2 (uni_from r s h2 x hx)⟩) (uni_canon r s h2 hs fun y hy => hr y (List.mem_cons_of_mem _ hy))
    · exact uni_canon r _ (List.pairwise_cons.2 ⟨fun y hy => h1 y (List.mem_cons_of_mem _ hy), h4⟩) (join_okay ht hs hst) fun y hy => hr y (List.mem_cons_of_mem _ hy)
theorem uni_has : ∀ (r : List Sp) (t : Sp), Order (t :: r) → ∀ k, inL (uniL t r) k = (hasL t k || inL r k)
  | [], t, _, k => by rw [show uniL t [] = [t] from rfl, inL_cons]
  | s :: r, t, h, k => by
    obtain ⟨h1, h2⟩ := List.pairwise_cons.1 h
    obtain ⟨h3, h4⟩ := List.pairwise_cons.1 h2
    have hst : ltL s.1 t.1 = false := h1 s (by simp)
    unfold uniL
    split
    · rw [inL_cons, uni_has r s h2, inL_cons]
    · rename_i hg
      rw [uni_has r (t.1, if soonL t.2 s.2 = true then s.2 else t.2) (List.pairwise_cons.2 ⟨fun y hy => h1 y (List.mem_cons_of_mem _ hy), h4⟩) k, join_has hst (Bool.eq_false_iff.2 hg), inL_cons, Bool.or_assoc]
/-- All of them. -/
def unisL : List Sp → List Sp
  | [] => []
  | t :: r => uniL t r
theorem unis_union (l S : List Sp) (hp : S.Perm (l.filter validL)) (ho : Order S) : unisL S = unionL l := by
  have hv : ∀ s ∈ S, validL s = true := fun s hs => (List.mem_filter.1 (hp.mem_iff.1 hs)).2
  have hk : ∀ s ∈ S, Okay s := fun s hs => ((validL_iff s).1 (hv s hs)).2
  have hin : ∀ k, inL S k = anyL l k := fun k => by
    rw [Bool.eq_iff_iff, anyL_iff]
    unfold inL
    rw [List.any_eq_true]
    constructor
    · rintro ⟨s, hs, h⟩
      exact ⟨s, (List.mem_filter.1 (hp.mem_iff.1 hs)).1, hv s hs, h⟩
    · rintro ⟨s, hs, h1, h2⟩
      exact ⟨s, hp.mem_iff.2 (List.mem_filter.2 ⟨hs, h1⟩), h2⟩
  cases S with
  | nil => exact union_only l [] trivial hin
  | cons t r => exact union_only l _ (uni_canon r t ho (hk t (by simp)) fun s hs => hk s (List.mem_cons_of_mem _ hs)) (fun k => (uni_has r t ho k).trans ((inL_cons t r k).symm.trans (hin k)))

/-- What stands there and what is to come: the last span under way. -/
@[irreducible] def uniR (p : List Sp) (t : Sp) (r : List Sp) : List Sp := p ++ uniL t r
theorem uniR_first (t : Sp) (r : List Sp) : unisL (t :: r) = uniR [] t r := by unfold uniR; rfl
theorem uniR_gap (p : List Sp) (t s : Sp) (r : List Sp) (h : gapL t.2 s.1 = true) : uniR p t (s :: r) = uniR (p ++ [t]) s r := by unfold uniR; rw [uniL, if_pos h]; simp
theorem uniR_on (p : List Sp) (t s : Sp) (r : List Sp) (h : gapL t.2 s.1 = false) (h2 : soonL t.2 s.2 = true) : uniR p t (s :: r) = uniR p (t.1, s.2) r := by unfold uniR; rw [uniL, if_neg (by rw [h]; simp), if_pos h2]
theorem uniR_in (p : List Sp) (t s : Sp) (r : List Sp) (h : gapL t.2 s.1 = false) (h2 : soonL t.2 s.2 = false) : uniR p t (s :: r) = uniR p t r := by unfold uniR; rw [uniL, if_neg (by rw [h]; simp), if_neg (by rw [h2]; simp)]
theorem uniR_end (p : List Sp) (t : Sp) : uniR p t [] = p ++ [t] := by unfold uniR; rfl
end Go.Proofs.Ytfjgikcbngfhmaa
