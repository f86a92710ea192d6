/-
  A row of the call's own, behind it a row that lies, of any length.
-/
import Derived.Test.YtfjgikcbngfhmaaSP
namespace Go.Proofs.Ytfjgikcbngfhmaa
open Go.RowKit

theorem run_append_zero {P : Program} (w : World) (t ty e : TypeId) (i : TypeInfo) (ht : P.underlying t = some (.slice e)) (hi : P.info? e = some i) (g m m' : Nat) (hm : m ≤ m') (A : Option Addr) (c : Nat) :
    (Builtin.append_ #[t, t] ty #[.slice (some ⟨g, 0, none⟩) m m', .slice A 0 c]).run P w = .ok (.slice (some ⟨g, 0, none⟩) m m') w := by
  cases A <;> simp [Builtin.append_, run_underlying ht, sizeOf, typeInfo, hi, Builtin.lenOf, Builtin.firstCells, storeCells, loadCells, loadCellsFrom, hm]
/-- A step of a region that draws: a row that lies, behind a row of the call's own. -/
theorem step_behind {P : Program} {w : World} {ops : Array Oper} {o : Oper} {a : Act} {K : Act → World → Prop} {Q : Exit → Act → World → Prop} {E : Prop} (hgd : o.guard = none) (s x : Operand) (t : TypeId)
    (ho : o.op = .call { callee := .builtin .append, args := #[s, x], argTypes := #[t, t] })
    (base : Nat) (e : TypeId) (i : TypeInfo) (z : Value) (k bytes : Nat) (ht : P.underlying t = some (.slice e)) (hi : P.info? e = some i) (hz : i.zero = some z)
    (hsize : i.size = k) (hby : i.bytes = bytes) (hzs : z.cells.size = k) (hk : 0 < k) (hby1 : 0 < bytes)
    (g m m' : Nat) (hmm : m ≤ m') (xs : List Value) (hs : a.eval s = .slice (some ⟨g, 0, none⟩) m m') (hown : w.ownsRow base e k (.slice (some ⟨g, 0, none⟩) m m') m xs)
    (A : Option Addr) (n c : Nat) (cs : List Value) (hx : a.eval x = .slice A n c) (hrow : RowAt w A cs) (hl : cs.length = n * k) (h1 : ∀ u ∈ cs, u.oneCell' = true) (hn : (m + n) * bytes ≤ 140737488355328)
    (w0 : World) (hb : Below base w0 w) (hbs : base ≤ w.heap.size)
    (h : ∀ g' cap' w', w'.ownsRow base e k (.slice (some ⟨g', 0, none⟩) (m + n) cap') (m + n) (xs ++ cs) → Below base w0 w' → (∀ j, j < w.heap.size → j ≠ g → w'.heap[j]? = w.heap[j]?) → K (a.put o.dst (.slice (some ⟨g', 0, none⟩) (m + n) cap')) w') :
    if Region.wanted o (yielded ops a.tmps) = true then Oper.wp P o a w K Q else E := by
  by_cases h0 : n = 0
  · subst h0
    have hcs : cs = [] := List.eq_nil_of_length_eq_zero (by omega)
    subst hcs
    have hw : Region.wanted o (yielded ops a.tmps) = true := by simp [Region.wanted, hgd]
    rw [if_pos hw]
    have hr := run_append_zero (P := P) w t o.type e i ht hi g m m' hmm A c
    have h' := h g m' w (by simpa using hown) hb (fun _ _ _ => rfl)
    unfold Oper.wp execOp
    simp only [ho, resolve, invoke, builtin, Sem.run_bind, Sem.run_pure, Result.andThen_ok, List.map_toArray, List.map_cons, List.map_nil, hs, hx, hr]
    exact h'
  · obtain ⟨u0, hu0⟩ : ∃ u0, cs[0]? = some u0 := ⟨_, List.getElem?_eq_getElem (by rw [hl]; exact Nat.mul_pos (by omega) hk)⟩
    obtain ⟨b, off, hA, _, _⟩ := hrow 0 u0 hu0
    have hmn : m + n ≤ (m + n) * bytes := Nat.le_mul_of_pos_right _ hby1
    refine step_append_lies _ hgd s x t ho base e i z k bytes ht hi hz hsize hby hzs hk _ m xs hs hown ⟨b, off, none⟩ n c cs (by rw [hx, hA]) hl ?_ h1 (by omega) (by unfold maxLen; omega) hn hbs _ rfl ?_
    · intro j u hu
      obtain ⟨b', off', hA', _, hc⟩ := hrow j u hu
      rw [hA] at hA'
      injection hA' with hA'
      injection hA' with e1 e2
      subst e1
      subst e2
      rw [row_add]; exact hc
    · intro g' cap' w' hown' hgrow _ _
      exact h g' cap' w' hown' (hb.grown hgrow hbs (fun j hj => (World.ownsRow.lt hown j hj).1)) (fun j hj hne => hgrow.block j hj (by simpa [Value.ownBlock] using hne))
/-- The same at an operation that stands in its order. -/
theorem wpList_behind {P : Program} {w : World} {ops : Array Oper} {rest : List Oper} {o : Oper} {a : Act} {Q : Exit → Act → World → Prop} (hgd : o.guard = none) (s x : Operand) (t : TypeId)
    (ho : o.op = .call { callee := .builtin .append, args := #[s, x], argTypes := #[t, t] })
    (base : Nat) (e : TypeId) (i : TypeInfo) (z : Value) (k bytes : Nat) (ht : P.underlying t = some (.slice e)) (hi : P.info? e = some i) (hz : i.zero = some z)
    (hsize : i.size = k) (hby : i.bytes = bytes) (hzs : z.cells.size = k) (hk : 0 < k) (hby1 : 0 < bytes)
    (g m m' : Nat) (hmm : m ≤ m') (xs : List Value) (hs : a.eval s = .slice (some ⟨g, 0, none⟩) m m') (hown : w.ownsRow base e k (.slice (some ⟨g, 0, none⟩) m m') m xs)
    (A : Option Addr) (n c : Nat) (cs : List Value) (hx : a.eval x = .slice A n c) (hrow : RowAt w A cs) (hl : cs.length = n * k) (h1 : ∀ u ∈ cs, u.oneCell' = true) (hn : (m + n) * bytes ≤ 140737488355328)
    (w0 : World) (hb : Below base w0 w) (hbs : base ≤ w.heap.size)
    (h : ∀ g' cap' w', w'.ownsRow base e k (.slice (some ⟨g', 0, none⟩) (m + n) cap') (m + n) (xs ++ cs) → Below base w0 w' → wpList P ops Q rest (a.put o.dst (.slice (some ⟨g', 0, none⟩) (m + n) cap')) w') : wpList P ops Q (o :: rest) a w := by
  refine wpList_plain hgd fun K hK => ?_
  have := step_behind (P := P) (w := w) (ops := ops) (o := o) (a := a) (K := K) (Q := Q) (E := True) hgd s x t ho base e i z k bytes ht hi hz hsize hby hzs hk hby1 g m m' hmm xs hs hown A n c cs hx hrow hl h1 hn w0 hb hbs (fun g' cap' w' h2 h3 _ => hK _ _ (h g' cap' w' h2 h3))
  rwa [if_pos (by simp [Region.wanted, hgd])] at this
/-- A row of one span, as the call makes it. -/
theorem own_one (W : World) (cs : Array Value) (hs : cs.size = 2) : (W.alloc (.cells cs 23)).ownsRow W.heap.size 23 2 (.slice (some ⟨W.heap.size, 0, none⟩) 1 1) 1 cs.toList :=
  World.ownsRow_lit W cs 1 (Nat.le_refl _) (by unfold maxLen; omega) (by omega)
theorem great_yes (l : List Sp) (more : List (List UInt8)) (A A' : Option Addr) (n n' cap cap' : Nat) (w : World) (hn : l.length = n) (hn' : more.length = n') (hr : RowAt w A (spC l)) (hr' : RowAt w A' (strC more)) (hn3 : n' ≤ 1000) (hs : ¬ smallL l more) :
    Calls Try.prog 11 #[.slice A n cap, .slice A' n' cap'] w fun e w' => e = .returned (.bool true) ∧ Below w.heap.size w w' :=
  (great_any l more A A' n n' cap cap' w hn hn' hr hr' hn3).mono fun _ _ ⟨h, hb⟩ => ⟨h.elim (fun h => h.1) (fun h => absurd h.2 hs), hb⟩
theorem great_no (l : List Sp) (more : List (List UInt8)) (A A' : Option Addr) (n n' cap cap' : Nat) (w : World) (hn : l.length = n) (hn' : more.length = n') (hr : RowAt w A (spC l)) (hr' : RowAt w A' (strC more)) (hn3 : n' ≤ 1000) (hs : smallL l more) :
    Calls Try.prog 11 #[.slice A n cap, .slice A' n' cap'] w fun e w' => e = .returned (.bool false) ∧ Below w.heap.size w w' :=
  (great_any l more A A' n n' cap cap' w hn hn' hr hr' hn3).mono fun _ _ ⟨h, hb⟩ => ⟨h.elim (fun h => absurd hs h.2) (fun h => h.1), hb⟩
end Go.Proofs.Ytfjgikcbngfhmaa
