/-
  Files as a map reads them (pure): what stands at a name, behind a put, behind a del. Whatever an element reads as.
-/
import Derived.Test.YtbgfkjafablfiaaTU
import Derived.Maps.OwnSet
import Derived.Maps.RangeWalk
import Derived.Maps.Ext
namespace Go.Proofs.Ytbgfkjafablfiaa
open Go.RowKit

theorem before_lt : ∀ a b : List UInt8, bytesBefore a b = ltL a b
  | [], [] => by rw [ltL_nil]; rfl
  | [], y :: b => by rw [nil_ltL (by simp)]; rfl
  | x :: a, [] => by rw [ltL_nil]; rfl
  | x :: a, y :: b => by
    have h1 : bytesBefore (x :: a) (y :: b) = (x < y || (x == y && bytesBefore a b)) := rfl
    rw [h1, before_lt a b]
    apply Bool.eq_iff_iff.2
    rw [ltL_cons]
    simp [UInt8.lt_iff_toNat_lt]
section
variable {H : Type} (el : Fl → DataW H)

def mapF (l : List Fl) : DataW H := .map (l.map fun f => (.string f.1, el f))
theorem mapF_size (l : List Fl) : Maps.size (mapF el l) = l.length := by simp [mapF, Maps.size]
theorem mapF_at {nm : List UInt8} : ∀ {l : List Fl} {i : Nat} {f : Fl} (z : DataW H), atN nm l = some i → l[i]? = some f → (mapF el l).atKey (.string nm) z = el f
  | [], i, f, z, h, _ => by cases h
  | g :: l, i, f, z, h, hf => by
    by_cases hg : g.1 = nm
    · rw [atN_hit hg] at h
      injection h with h
      subst h
      obtain rfl : g = f := by simpa using hf
      simp [mapF, DataW.atKey, Lit.sameKey, hg]
    · rw [atN_skip hg] at h
      obtain ⟨j, hj, rfl⟩ := Option.map_eq_some_iff.1 h
      have ih := mapF_at z hj (by simpa using hf)
      simp only [mapF, DataW.atKey, List.map_cons, List.find?_cons] at ih ⊢
      rw [show (Lit.string g.1).sameKey (.string nm) = false by simp [Lit.sameKey, hg]]
      exact ih
theorem mapF_no {nm : List UInt8} : ∀ {l : List Fl} (z : DataW H), atN nm l = none → (mapF el l).atKey (.string nm) z = z
  | [], z, _ => by simp [mapF, DataW.atKey]
  | g :: l, z, h => by
    have hg := atN_none h g (by simp)
    rw [atN_skip hg] at h
    have ih := mapF_no (l := l) z (by simpa using h)
    simp only [mapF, DataW.atKey, List.map_cons, List.find?_cons] at ih ⊢
    rw [show (Lit.string g.1).sameKey (.string nm) = false by simp [Lit.sameKey, hg]]
    exact ih
theorem mapF_has (nm : List UInt8) : ∀ l : List Fl, Maps.has (mapF el l) (.string nm) = (atN nm l).isSome
  | [] => by simp [mapF, Maps.has, atN]
  | g :: l => by
    have ih := mapF_has nm l
    simp only [mapF, Maps.has, List.map_cons, List.any_cons] at ih ⊢
    rw [ih]
    by_cases hg : g.1 = nm
    · rw [atN_hit hg]; simp [Lit.sameKey, hg]
    · rw [atN_skip hg]; simp [Lit.sameKey, hg]
theorem filter_no {nm : List UInt8} {l : List Fl} (h : ∀ f ∈ l, f.1 ≠ nm) : (l.map fun f => ((Lit.string f.1, el f) : Lit × DataW H)).filter (fun p => !p.1.sameKey (.string nm)) = l.map fun f => (.string f.1, el f) := by
  rw [List.filter_eq_self]
  intro p hp
  obtain ⟨f, hf, rfl⟩ := List.mem_map.1 hp
  simp [Lit.sameKey, h f hf]
theorem rise_after {f : Fl} {l : List Fl} (h : RiseF (f :: l)) : ∀ g ∈ l, ltL f.1 g.1 = true ∧ g.1 ≠ f.1 := fun g hg => by
  have := (List.pairwise_cons.1 h).1 g hg
  exact ⟨this, fun e => by rw [e, ltL_irrefl] at this; cases this⟩
theorem rise_rest {f : Fl} {l : List Fl} (h : RiseF (f :: l)) : RiseF l := (List.pairwise_cons.1 h).2
/-- delete. -/
theorem mapF_del {nm : List UInt8} : ∀ {l : List Fl} {i : Nat}, RiseF l → atN nm l = some i → (mapF el l).del (.string nm) = mapF el (l.take i ++ l.drop (i + 1))
  | [], i, _, h => by cases h
  | g :: l, i, hr, h => by
    by_cases hg : g.1 = nm
    · rw [atN_hit hg] at h
      injection h with h
      subst h
      have := filter_no el (nm := nm) (l := l) (fun f hf => by rw [← hg]; exact (rise_after hr f hf).2)
      simp only [mapF, DataW.del, List.map_cons, List.filter_cons, List.take_zero, List.nil_append, Nat.zero_add, List.drop_succ_cons, List.drop_zero]
      rw [this]
      simp [Lit.sameKey, hg]
    · rw [atN_skip hg] at h
      obtain ⟨j, hj, rfl⟩ := Option.map_eq_some_iff.1 h
      have ih := mapF_del (rise_rest hr) hj
      simp only [mapF, DataW.del, List.map_cons, List.filter_cons, List.take_succ_cons, List.cons_append, List.drop_succ_cons, DataW.map.injEq] at ih ⊢
      rw [ih]
      simp [Lit.sameKey, hg]
/-- A store at a name that is there. -/
theorem mapF_put {nm : List UInt8} (g : Fl → Fl) (hg1 : ∀ f, (g f).1 = f.1) : ∀ {l : List Fl} {i : Nat} {f : Fl}, RiseF l → atN nm l = some i → l[i]? = some f → (mapF el l).put (.string nm) (el (g f)) = mapF el (l.modify i g)
  | [], i, f, _, h, _ => by cases h
  | q :: l, i, f, hr, h, hf => by
    by_cases hq : q.1 = nm
    · rw [atN_hit hq] at h
      injection h with h
      subst h
      obtain rfl : q = f := by simpa using hf
      have := filter_no el (nm := nm) (l := l) (fun f hf => by rw [← hq]; exact (rise_after hr f hf).2)
      simp only [mapF, DataW.put, List.map_cons, List.filter_cons, List.modify_zero_cons, DataW.map.injEq]
      rw [this, show (!(Lit.string q.1).sameKey (.string nm)) = false by simp [Lit.sameKey, hq], hg1, hq]
      cases l with
      | nil => simp [DataW.insert]
      | cons p l =>
        have hp := (rise_after hr p (by simp)).1
        rw [hq] at hp
        simp [DataW.insert, Lit.before, before_lt, hp]
    · rw [atN_skip hq] at h
      obtain ⟨j, hj, rfl⟩ := Option.map_eq_some_iff.1 h
      have hf2 : l[j]? = some f := by simpa using hf
      have ih := mapF_put g hg1 (rise_rest hr) hj hf2
      obtain ⟨f', hf', hn⟩ := atN_some hj
      have hlt : ltL q.1 nm = true := by rw [← hn]; exact (rise_after hr f' (List.mem_of_getElem? hf')).1
      simp only [mapF, DataW.put, List.map_cons, List.filter_cons, List.modify_succ_cons, DataW.map.injEq] at ih ⊢
      rw [show (!(Lit.string q.1).sameKey (.string nm)) = true by simp [Lit.sameKey, hq], if_pos rfl, DataW.insert]
      simp only [Lit.before, before_lt]
      rw [ltL_asymm hlt, ih]
      simp
/-- A store at a new name. -/
theorem mapF_new {nm : List UInt8} (d : DataW H) : ∀ {l : List Fl}, atN nm l = none → (mapF el l).put (.string nm) d = .map (((l.take (placeL nm l)).map fun f => (.string f.1, el f)) ++ [(.string nm, d)] ++ ((l.drop (placeL nm l)).map fun f => (.string f.1, el f)))
  | [], _ => by simp [mapF, DataW.put, DataW.insert, placeL]
  | q :: l, h => by
    have hq := atN_none h q (by simp)
    have h2 := h
    rw [atN_skip hq] at h2
    have ih := mapF_new (l := l) d (by simpa using h2)
    have hf := filter_no el (nm := nm) (l := l) (fun f hf => atN_none h f (by simp [hf]))
    simp only [mapF, DataW.put, List.map_cons, List.filter_cons, DataW.map.injEq] at ih ⊢
    rw [hf] at ih
    rw [hf, show (!(Lit.string q.1).sameKey (.string nm)) = true by simp [Lit.sameKey, hq], if_pos rfl, DataW.insert]
    simp only [Lit.before, before_lt]
    rcases ltL_tri q.1 nm with h1 | h1 | h1
    · rw [ltL_asymm h1, ih, placeL, if_pos h1]; simp
    · exact absurd h1 hq
    · rw [h1, if_pos rfl, placeL, ltL_asymm h1]; simp
/-- What Append leaves. -/
theorem mapF_append (nm b : List UInt8) (l : List Fl) (hr : RiseF l) :
    (∀ i f, atN nm l = some i → l[i]? = some f → (mapF el l).put (.string nm) (el (f.1, f.2.1, f.2.2 ++ b)) = mapF el (putF nm b l)) ∧ (atN nm l = none → (mapF el l).put (.string nm) (el (nm, [], b)) = mapF el (putF nm b l)) := by
  refine ⟨fun i f h hf => ?_, fun h => ?_⟩
  · rw [putF, h]
    exact mapF_put el (fun f => (f.1, f.2.1, f.2.2 ++ b)) (fun _ => rfl) hr h hf
  · rw [putF, h, mapF_new el _ h]
    simp [mapF]
end

/-! What a range has been at; names in order. -/
/-- Those that are no longer to come. -/
def gone (left : Lit → Bool) (l : List Fl) : List Fl := l.filter fun f => !left (.string f.1)
theorem gone_none {left : Lit → Bool} {l : List Fl} (h : ∀ f ∈ l, left (.string f.1) = true) : gone left l = [] := by
  unfold gone
  rw [List.filter_eq_nil_iff]
  intro f hf
  simp [h f hf]
theorem gone_all {left : Lit → Bool} (h : ∀ kl, left kl = false) (l : List Fl) : gone left l = l := by
  unfold gone
  rw [List.filter_eq_self]
  intro f _
  simp [h]
theorem gone_same {left left' : Lit → Bool} {l : List Fl} (h : ∀ f ∈ l, left' (.string f.1) = left (.string f.1)) : gone left' l = gone left l := by
  unfold gone
  exact List.filter_congr fun f hf => by rw [h f hf]
theorem gone_step {left : Lit → Bool} {nm : List UInt8} (hl : left (.string nm) = true) : ∀ {l : List Fl} {i : Nat} {f : Fl}, RiseF l → atN nm l = some i → l[i]? = some f →
    usedL (gone (fun z => left z && !z.sameKey (.string nm)) l) = usedL (gone left l) + sizeF f
  | [], i, f, _, h, _ => by cases h
  | g :: l, i, f, hr, h, hf => by
    by_cases hg : g.1 = nm
    · rw [atN_hit hg] at h
      injection h with h
      subst h
      obtain rfl : g = f := by simpa using hf
      have h1 : gone (fun z => left z && !z.sameKey (.string nm)) l = gone left l := gone_same fun q hq => by
        have := (rise_after hr q hq).2
        rw [hg] at this
        simp [Lit.sameKey, this]
      have h2 : gone (fun z => left z && !z.sameKey (.string nm)) (g :: l) = g :: gone (fun z => left z && !z.sameKey (.string nm)) l := by
        unfold gone
        rw [List.filter_cons_of_pos (by simp [Lit.sameKey, hg])]
      have h3 : gone left (g :: l) = gone left l := by
        unfold gone
        rw [List.filter_cons_of_neg (by simp [hg, hl])]
      rw [h2, h3, h1]
      simp only [usedL]; omega
    · rw [atN_skip hg] at h
      obtain ⟨j, hj, rfl⟩ := Option.map_eq_some_iff.1 h
      have ih : usedL (l.filter fun f => !(left (.string f.1) && !(Lit.string f.1).sameKey (.string nm))) = usedL (l.filter fun f => !left (.string f.1)) + sizeF f := gone_step hl (rise_rest hr) hj (by simpa using hf)
      unfold gone
      rw [List.filter_cons, List.filter_cons]
      have h1 : (left (.string g.1) && !(Lit.string g.1).sameKey (.string nm)) = left (.string g.1) := by simp [Lit.sameKey, hg]
      simp only [h1]
      split
      · simp only [usedL]; omega
      · exact ih
theorem gone_le (left : Lit → Bool) : ∀ l : List Fl, usedL (gone left l) ≤ usedL l
  | [] => Nat.le_refl _
  | f :: l => by
    have := gone_le left l
    unfold gone at this ⊢
    rw [List.filter_cons]
    split <;> simp only [usedL] <;> omega
theorem has_all {H : Type} (el : Fl → DataW H) {l : List Fl} : ∀ f ∈ l, Maps.has (mapF el l) (.string f.1) = true := fun f hf => by
  rw [mapF_has]
  cases h : atN f.1 l with
  | some i => rfl
  | none => exact absurd rfl (atN_none h f hf)
theorem lt_ltL : ∀ a b : List UInt8, a < b ↔ ltL a b = true
  | [], [] => by rw [ltL_nil]; simp
  | [], y :: b => by rw [nil_ltL (by simp)]; simp
  | x :: a, [] => by rw [ltL_nil]; simp
  | x :: a, y :: b => by
    rw [List.cons_lt_cons_iff, ltL_cons, lt_ltL a b, UInt8.lt_iff_toNat_lt]
theorem le_ltL (a b : List UInt8) : a ≤ b ↔ ltL b a = false := by
  rw [← List.not_lt, lt_ltL]; simp
/-- Texts that rise are what sorting gives of them in whatever order. -/
theorem sort_rise {l ss : List (List UInt8)} (h : l.Pairwise fun a b => ltL a b = true) (hp : ss.Perm l) : ss.mergeSort (fun x y => decide (x ≤ y)) = l := by
  have h1 : (ss.mergeSort (fun x y => decide (x ≤ y))).Perm l := (List.mergeSort_perm _ _).trans hp
  have h2 : (ss.mergeSort (fun x y => decide (x ≤ y))).Pairwise (fun x y => decide (x ≤ y) = true) := List.pairwise_mergeSort (by
      intro a b c h1 h2
      simp only [decide_eq_true_eq] at *
      exact List.le_trans h1 h2) (by
      intro a b
      simp only [Bool.or_eq_true, decide_eq_true_eq]
      exact List.le_total a b) ss
  have h3 : l.Pairwise (fun x y => decide (x ≤ y) = true) := h.imp fun {a b} hab => by
    rw [decide_eq_true_eq, le_ltL]; exact ltL_asymm hab
  exact List.Perm.eq_of_pairwise (fun a b _ _ ha hb => by
    simp only [decide_eq_true_eq] at ha hb
    exact List.le_antisymm ha hb) h2 h3 h1
theorem gone_perm {left : Lit → Bool} {nm : List UInt8} (hl : left (.string nm) = true) : ∀ {l : List Fl} {i : Nat} {f : Fl}, RiseF l → atN nm l = some i → l[i]? = some f →
    (gone (fun z => left z && !z.sameKey (.string nm)) l).Perm (gone left l ++ [f])
  | [], i, f, _, h, _ => by cases h
  | g :: l, i, f, hr, h, hf => by
    by_cases hg : g.1 = nm
    · rw [atN_hit hg] at h
      injection h with h
      subst h
      obtain rfl : g = f := by simpa using hf
      have h1 : gone (fun z => left z && !z.sameKey (.string nm)) l = gone left l := gone_same fun q hq => by
        have := (rise_after hr q hq).2
        rw [hg] at this
        simp [Lit.sameKey, this]
      have h2 : gone (fun z => left z && !z.sameKey (.string nm)) (g :: l) = g :: gone (fun z => left z && !z.sameKey (.string nm)) l := by
        unfold gone
        rw [List.filter_cons_of_pos (by simp [Lit.sameKey, hg])]
      have h3 : gone left (g :: l) = gone left l := by
        unfold gone
        rw [List.filter_cons_of_neg (by simp [hg, hl])]
      rw [h2, h3, h1]
      exact (List.perm_append_singleton g _).symm
    · rw [atN_skip hg] at h
      obtain ⟨j, hj, rfl⟩ := Option.map_eq_some_iff.1 h
      have ih : (l.filter fun f => !(left (.string f.1) && !(Lit.string f.1).sameKey (.string nm))).Perm ((l.filter fun f => !left (.string f.1)) ++ [f]) := gone_perm hl (rise_rest hr) hj (by simpa using hf)
      unfold gone
      rw [List.filter_cons, List.filter_cons]
      have h1 : (left (.string g.1) && !(Lit.string g.1).sameKey (.string nm)) = left (.string g.1) := by simp [Lit.sameKey, hg]
      simp only [h1]
      split
      · exact ih.cons g
      · exact ih
end Go.Proofs.Ytbgfkjafablfiaa
