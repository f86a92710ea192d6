/-
  Unions, what is left, and what is covered: by the ends of spans, as functions on lists, and what the chapter promises of them; no program is walked here.
-/
import Derived.Test.YtfjgikcbngfhmaaSA
namespace Go.Proofs.Ytfjgikcbngfhmaa

/-- From each end on up to the next one: the fewest spans that have what is told. -/
def madeL : Option (List UInt8) → List (List UInt8 × Bool) → List Sp
  | none, [] => []
  | some f, [] => [(f, [])]
  | none, (e, h) :: r => if h = true then madeL (some e) r else madeL none r
  | some f, (e, h) :: r => if h = true then madeL (some f) r else (f, e) :: madeL none r
/-- What is told of a key. -/
def valAt : Bool → List (List UInt8 × Bool) → List UInt8 → Bool
  | b, [], _ => b
  | b, (e, h) :: r, k => if ltL k e = true then b else valAt h r k
/-- Rising, each once. -/
abbrev Rise (l : List (List UInt8)) : Prop := l.Pairwise fun a b => ltL a b = true
theorem valAt_before (k : List UInt8) (b : Bool) (r : List (List UInt8 × Bool)) (h : ∀ q ∈ r, ltL k q.1 = true) : valAt b r k = b := by
  cases r with
  | nil => rfl
  | cons q r => rw [valAt, if_pos (h q (by simp))]
theorem made_mem : ∀ (r : List (List UInt8 × Bool)) (o : Option (List UInt8)) (s : Sp), s ∈ madeL o r → (o = some s.1 ∨ s.1 ∈ r.map (·.1)) ∧ (s.2 = [] ∨ s.2 ∈ r.map (·.1))
  | [], none, s, h => by cases h
  | [], some f, s, h => by
    rw [madeL, List.mem_singleton] at h
    subst h
    exact ⟨.inl rfl, .inl rfl⟩
  | (e, true) :: r, none, s, h => by
    rw [madeL, if_pos rfl] at h
    have := made_mem r _ s h
    refine ⟨.inr ?_, ?_⟩
    · rcases this.1 with g | g
      · injection g with g; simp [g]
      · simp only [List.map_cons, List.mem_cons]; exact .inr g
    · rcases this.2 with g | g
      · exact .inl g
      · simp only [List.map_cons, List.mem_cons]; exact .inr (.inr g)
  | (e, false) :: r, none, s, h => by
    rw [madeL, if_neg (by decide)] at h
    have := made_mem r _ s h
    refine ⟨.inr ?_, ?_⟩
    · rcases this.1 with g | g
      · cases g
      · simp only [List.map_cons, List.mem_cons]; exact .inr g
    · rcases this.2 with g | g
      · exact .inl g
      · simp only [List.map_cons, List.mem_cons]; exact .inr (.inr g)
  | (e, true) :: r, some f, s, h => by
    rw [madeL, if_pos rfl] at h
    have := made_mem r _ s h
    refine ⟨?_, ?_⟩
    · rcases this.1 with g | g
      · exact .inl g
      · simp only [List.map_cons, List.mem_cons]; exact .inr (.inr g)
    · rcases this.2 with g | g
      · exact .inl g
      · simp only [List.map_cons, List.mem_cons]; exact .inr (.inr g)
  | (e, false) :: r, some f, s, h => by
    rw [madeL, if_neg (by decide)] at h
    rcases List.mem_cons.1 h with rfl | h
    · exact ⟨.inl rfl, .inr (by simp)⟩
    · have := made_mem r _ s h
      refine ⟨?_, ?_⟩
      · rcases this.1 with g | g
        · cases g
        · simp only [List.map_cons, List.mem_cons]; exact .inr (.inr g)
      · rcases this.2 with g | g
        · exact .inl g
        · simp only [List.map_cons, List.mem_cons]; exact .inr (.inr g)
theorem canon_cons {f e : List UInt8} {l : List Sp} (h1 : ltL f e = true) (h2 : ∀ t ∈ l, ltL e t.1 = true) (h3 : Canon l) : Canon ((f, e) :: l) := by
  cases l with
  | nil => exact .inr h1
  | cons t l => exact ⟨h1, h2 t (by simp), h3⟩
theorem made_canon : ∀ (r : List (List UInt8 × Bool)), Rise (r.map (·.1)) → Canon (madeL none r) ∧ ∀ f, (∀ e ∈ r.map (·.1), ltL f e = true) → Canon (madeL (some f) r)
  | [], _ => ⟨trivial, fun f _ => .inl rfl⟩
  | (e, h) :: r, hp => by
    rw [List.map_cons] at hp
    have hp2 := List.pairwise_cons.1 hp
    have ih := made_canon r hp2.2
    refine ⟨?_, fun f hf => ?_⟩
    · rw [madeL]
      split
      · exact ih.2 e hp2.1
      · exact ih.1
    · rw [madeL]
      split
      · exact ih.2 f (fun x hx => hf x (by rw [List.map_cons]; exact List.mem_cons.2 (.inr hx)))
      · refine canon_cons (hf e (by simp)) (fun t ht => hp2.1 t.1 ?_) ih.1
        rcases (made_mem r none t ht).1 with g | g
        · cases g
        · exact g
theorem made_has : ∀ (r : List (List UInt8 × Bool)), Rise (r.map (·.1)) → (∀ k, inL (madeL none r) k = valAt false r k) ∧ ∀ f, (∀ e ∈ r.map (·.1), ltL f e = true) → ∀ k, inL (madeL (some f) r) k = (!(ltL k f) && valAt true r k)
  | [], _ => ⟨fun k => rfl, fun f _ k => by simp [madeL, inL, hasL, valAt]⟩
  | (e, h) :: r, hp => by
    rw [List.map_cons] at hp
    have hp2 := List.pairwise_cons.1 hp
    have ih := made_has r hp2.2
    have bef : ∀ k b, ltL k e = true → valAt b r k = b := fun k b hk => valAt_before k b r (fun q hq => ltL_trans hk (hp2.1 q.1 (List.mem_map.2 ⟨q, hq, rfl⟩)))
    refine ⟨fun k => ?_, fun f hf k => ?_⟩
    · rw [madeL, valAt]
      cases h with
      | true =>
        rw [if_pos rfl, ih.2 e hp2.1]
        cases ltL k e <;> simp
      | false =>
        rw [if_neg (by decide), ih.1]
        cases hk : ltL k e with
        | true => rw [if_pos rfl, bef k _ hk]
        | false => rw [if_neg (by decide)]
    · have hfe := hf e (by simp)
      rw [madeL, valAt]
      cases h with
      | true =>
        rw [if_pos rfl, ih.2 f (fun x hx => hf x (by rw [List.map_cons]; exact List.mem_cons.2 (.inr hx)))]
        cases hk : ltL k e with
        | true => rw [if_pos rfl, bef k _ hk]
        | false => rw [if_neg (by decide)]
      | false =>
        rw [if_neg (by decide), inL_cons, ih.1]
        have hne : e.isEmpty = false := by
          cases e with
          | nil => rw [ltL_nil] at hfe; cases hfe
          | cons x e => rfl
        unfold hasL
        simp only [hne, Bool.false_or]
        cases hk : ltL k e with
        | true => rw [if_pos rfl, bef k _ hk]; simp
        | false =>
          rw [if_neg (by decide)]
          have : ltL k f = false := ltL_asymm (lt_ge hfe hk)
          simp [this]
/-- Told alike between two neighbours among the ends. -/
def Step (P : List UInt8 → Bool) (E : List (List UInt8)) : Prop := ∀ k e, e ∈ E → ltL k e = false → (∀ x ∈ E, ltL k x = false → ltL e x = false) → P k = P e
theorem valAt_step (P : List UInt8 → Bool) (E : List (List UInt8)) (hr : Rise E) (hs : Step P E) (k : List UInt8) : ∀ (es ds : List (List UInt8)) (e0 : List UInt8), E = ds ++ e0 :: es → ltL k e0 = false → valAt (P e0) (es.map fun e => (e, P e)) k = P k
  | [], ds, e0, hE, h0 => by
    refine (hs k e0 (by simp [hE]) h0 fun x hx _ => ?_).symm
    subst hE
    rcases List.mem_append.1 hx with hx | hx
    · exact ltL_asymm ((List.pairwise_append.1 hr).2.2 x hx e0 (by simp))
    · rw [List.mem_singleton.1 hx]; exact ltL_irrefl _
  | e1 :: es, ds, e0, hE, h0 => by
    rw [List.map_cons, valAt]
    cases hk : ltL k e1 with
    | true =>
      rw [if_pos rfl]
      refine (hs k e0 (by simp [hE]) h0 fun x hx hkx => ?_).symm
      subst hE
      have hp := List.pairwise_append.1 hr
      rcases List.mem_append.1 hx with hx | hx
      · exact ltL_asymm (hp.2.2 x hx e0 (by simp))
      · rcases List.mem_cons.1 hx with rfl | hx
        · exact ltL_irrefl _
        · have h2 := List.pairwise_cons.1 (List.pairwise_cons.1 hp.2.1).2
          rcases List.mem_cons.1 hx with rfl | hx
          · rw [hk] at hkx; cases hkx
          · rw [ltL_trans hk (h2.1 x hx)] at hkx; cases hkx
    | false =>
      rw [if_neg (by decide)]
      exact valAt_step P E hr hs k es (ds ++ [e0]) e1 (by simp [hE]) hk
theorem made_told (P : List UInt8 → Bool) (es : List (List UInt8)) (hr : Rise ([] :: es)) (hs : Step P ([] :: es)) (k : List UInt8) :
    inL (madeL none (([] :: es).map fun e => (e, P e))) k = P k := by
  have hm : ((([] : List UInt8) :: es).map fun e => (e, P e)).map (·.1) = [] :: es := by rw [List.map_map]; exact List.map_id _
  rw [(made_has _ (by rw [hm]; exact hr)).1 k, List.map_cons, valAt, ltL_nil, if_neg (by decide)]
  exact valAt_step P _ hr hs k es [] [] rfl (ltL_nil k)
theorem made_told_canon (P : List UInt8 → Bool) (es : List (List UInt8)) (hr : Rise es) : Canon (madeL none (es.map fun e => (e, P e))) := by
  have hm : (es.map fun e => (e, P e)).map (·.1) = es := by rw [List.map_map]; exact List.map_id _
  exact (made_canon _ (by rw [hm]; exact hr)).1
end Go.Proofs.Ytfjgikcbngfhmaa
